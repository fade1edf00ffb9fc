/- The document's put. -/
import Derived.Test.YtlkchajkhplapaaGreatDoorUae
import Derived.Test.YtlkchajkhplapaaGreatDoorUaa
import Derived.Laws.Cover1
namespace Go.Proofs.YtlkchajkhplapaaGreatDoor
open Go.RowKit Go.Maps Go.WideMaps

theorem wp_callU {P : Program} {o : Oper} {a : Act} {w : World} {K : Act → World → Prop} {Q : Exit → Act → World → Prop} {d : Option Tmp} {f : FuncId} {args : Array Value} (hd : o.dst = d) (h : (execOp a.eval o).run P w = .ok (.enter f args) w)
    (hc : Calls P f args w fun e w' => ∃ v, e = .returned v ∧ K (a.put d v) w') : o.wp P a w K Q := by
  subst hd
  unfold Oper.wp
  rw [h, Oper.upon_enter]
  refine hc.mono ?_
  rintro e w' ⟨v, rfl, hk⟩
  exact hk
theorem yields_loadX {P : Program} {ops : Array Oper} {S : World → Prop} {oi : Oper} {a : Act} {ty : TypeId} {n : Nat} {p : List Value} {b off : Nat} (hT : AggT P ty n) (x : Operand) (ho : oi.op = .load ty x) (hw : Region.wanted oi (yielded ops a.tmps) = true) (h : ∀ wx, S wx → ∀ j u, p[j]? = some u → wx.cell? ⟨b, off + j, none⟩ = some u) (hp : p.length = n) (hx : a.eval x = .pointer (some ⟨b, off, none⟩)) :
    YieldsIf P ops S oi (.agg p.toArray) a := by
  refine .inl ⟨hw, fun wx hS => ?_⟩
  have hr := run_loadX hT (h wx hS) hp
  unfold execOp
  simp only [ho, hx, Instr.loadAt, Instr.sureAddr, Sem.run_bind, Sem.run_pure, Result.andThen_ok, hr]
/-- What the loop of put has put together, k nodes looked at. -/
def PrtT (E : List (List UInt8 × Nd)) (e : List UInt8 × Nd) (k : Nat) (d : Bool) (o : List (List UInt8 × Nd)) : Prop :=
  (d = false ∧ o = E.take k ∧ ∀ j x, E[j]? = some x → j < k → ¬ nmT e < nmT x) ∨
  (d = true ∧ ∃ i, i < k ∧ o = E.take i ++ e :: (E.drop i).take (k - i) ∧ (∀ j x, E[j]? = some x → j < i → ¬ nmT e < nmT x) ∧ ∀ x, E[i]? = some x → nmT e < nmT x)
section
variable {E o : List (List UInt8 × Nd)} {e x : List UInt8 × Nd} {k : Nat}
theorem PrtT.start (E : List (List UInt8 × Nd)) (e : List UInt8 × Nd) : PrtT E e 0 false [] := .inl ⟨rfl, rfl, fun j x _ h => by omega⟩
theorem PrtT.pass (h : PrtT E e k false o) (hx : E[k]? = some x) (hn : ¬ nmT e < nmT x) : PrtT E e (k + 1) false (o ++ [x]) := by
  rcases h with ⟨-, rfl, h⟩ | ⟨h, -⟩
  · refine .inl ⟨rfl, ?_, fun j y hy hj => ?_⟩
    · rw [List.take_add_one, hx]
      rfl
    · by_cases e1 : j = k
      · subst e1
        have := hx.symm.trans hy
        injection this with this
        subst this
        exact hn
      · exact h j y hy (by omega)
  · cases h
theorem PrtT.put (h : PrtT E e k false o) (hx : E[k]? = some x) (hl : nmT e < nmT x) : PrtT E e (k + 1) true ((o ++ [e]) ++ [x]) := by
  rcases h with ⟨-, rfl, h⟩ | ⟨h, -⟩
  · refine .inr ⟨rfl, k, by omega, ?_, h, fun y hy => ?_⟩
    · obtain ⟨hk, hxe⟩ := List.getElem?_eq_some_iff.1 hx
      rw [show k + 1 - k = 1 by omega, List.drop_eq_getElem_cons hk, hxe]
      simp
    · have := hx.symm.trans hy
      injection this with this
      subst this
      exact hl
  · cases h
theorem PrtT.on (h : PrtT E e k true o) (hx : E[k]? = some x) : PrtT E e (k + 1) true (o ++ [x]) := by
  rcases h with ⟨h, -⟩ | ⟨-, i, hi, rfl, h1, h2⟩
  · cases h
  · refine .inr ⟨rfl, i, by omega, ?_, h1, h2⟩
    rw [List.append_assoc, List.cons_append, show k + 1 - i = (k - i) + 1 by omega, List.take_add_one, List.getElem?_drop, show i + (k - i) = k by omega, hx]
    rfl
theorem PrtT.done (h : PrtT E e k true o) (hk : k = E.length) : InsR nmT E e o := by
  rcases h with ⟨h, -⟩ | ⟨-, i, hi, rfl, h1, h2⟩
  · cases h
  · exact ⟨i, by omega, by rw [List.take_of_length_le (l := E.drop i) (by rw [List.length_drop]; omega)], h1, h2⟩
theorem PrtT.last (h : PrtT E e k false o) (hk : k = E.length) : InsR nmT E e (o ++ [e]) := by
  rcases h with ⟨-, rfl, h⟩ | ⟨h, -⟩
  · subst hk
    refine ⟨E.length, Nat.le_refl _, ?_, h, fun x hx => ?_⟩
    · rw [List.drop_length]
    · rw [List.getElem?_eq_none (Nat.le_refl _)] at hx
      cases hx
  · cases h
theorem PrtT.len {d : Bool} (h : PrtT E e k d o) : o.length ≤ k + 1 := by
  rcases h with ⟨-, rfl, -⟩ | ⟨-, i, hi, rfl, -, -⟩
  · rw [List.length_take]; omega
  · rw [List.length_append, List.length_cons, List.length_take, List.length_take, List.length_drop]; omega
end
theorem InsR.lenT {E out : List (List UInt8 × Nd)} {e : List UInt8 × Nd} (h : InsR nmT E e out) : out.length = E.length + 1 := by rw [h.perm.length_eq, List.length_append]; rfl
theorem szNd : (Tryz.prog.info? 43).map (·.size) = some 1 := by kernel_rfl
theorem over_allT (cs p : List Value) (h : cs.length ≤ p.length) : over cs 0 p = p := by
  rw [over, List.take_zero, List.nil_append, List.drop_eq_nil_of_le (by omega), List.append_nil]
theorem ndC_one (x : List UInt8 × Nd) (h : x.2.data.oneCell' = true) : ∀ u ∈ ndC x, u.oneCell' = true := by
  intro u hu
  unfold ndC nodeC at hu
  simp only [List.mem_cons, List.not_mem_nil, or_false] at hu
  rcases hu with rfl | rfl | rfl | rfl | rfl
  · rfl
  · rfl
  · rfl
  · rfl
  · exact h
theorem OwnB.oneCell {w : World} {base : Nat} {e : TypeId} {v : Value} {l : List UInt8} (h : OwnB w base e v l) : v.oneCell' = true := by
  obtain ⟨A, c, rfl, -, -⟩ := h.shape
  rfl
theorem rt_fix {w : World} {rb gw i : Nat} {v : Value} {N : List (List UInt8 × Nd)} {x : List UInt8 × Nd} {cs : List Value} (h : RT w rb v N) (hx : N[i]? = some x) (hc : CB w gw 63 cs) :
    ∃ ab ao cap, (∀ w', w.grownBy w' none → CB w' rb 46 [.slice (some ⟨ab, ao, none⟩) N.length cap] ∧ (∀ j u, (ndC x)[j]? = some u → w'.cell? ⟨ab, ao + i * 5 + j, none⟩ = some u) ∧ CB w' gw 63 cs) ∧ i < N.length := by
  obtain ⟨ab, ao, cap, hv, hab, hi, hcl⟩ := h.elem hx
  have ht := h.top
  rw [hv] at ht
  exact ⟨ab, ao, cap, fun w' hg => ⟨ht.kept hg, fun j u hj => ((below_of_none hg).cell (p := ⟨ab, ao + i * 5 + j, none⟩) hab).trans (hcl j u hj), hc.kept hg⟩, hi⟩
theorem rt_put {w w9 : World} {rb base : Nat} {v vO : Value} {N o : List (List UInt8 × Nd)} {x : List UInt8 × Nd} {l : List UInt8} (h : RT w rb v N) (hI : InsR nmT N x o) (hN : ∀ y ∈ N, nmT y ≠ nmT x) (hl : N.length < 64) (htop : CB w9 rb 46 [vO]) (hrow : RowX w9 base 63 5 vO (o.map ndC)) (hg : w.grownBy w9 (some rb)) (hd : OwnB w 0 5 x.2.data l) (hll : l.length ≤ 1000000) (hmo : x.2.mode < 64) : RT w9 rb vO o := by
  have hmem : ∀ y ∈ o, y ∈ N ∨ y = x := fun y hy => by
    rcases List.mem_append.1 (hI.perm.mem_iff.1 hy) with hy | hy
    · exact .inl hy
    · exact .inr (List.mem_singleton.1 hy)
  have hk : ∀ dv l, OwnB w 0 5 dv l → OwnB w9 0 5 dv l := fun dv l ho => World.ownsRow.kept ho hg (.inr (ho.ne_cells h.top (by decide)))
  refine ⟨htop, hrow.base_ (Nat.zero_le _), fun y hy => ?_, fun y hy => ?_, hI.sorted h.up hN, by rw [hI.lenT]; omega⟩
  · rcases hmem y hy with hy | rfl
    · obtain ⟨l, a, b⟩ := h.dat y hy
      exact ⟨l, hk _ _ a, b⟩
    · exact ⟨l, hk _ _ hd, hll⟩
  · rcases hmem y hy with hy | rfl
    · exact h.mode y hy
    · exact hmo
/-- What put did. -/
def PutRes (w w' : World) (rb : Nat) (N : List (List UInt8 × Nd)) (x : List UInt8 × Nd) : Prop :=
  ∃ v' N', RT w' rb v' N' ∧ InsR nmT N x N' ∧ w.grownBy w' (some rb) ∧ (∀ g, v'.ownBlock = some g → w.heap.size ≤ g)
set_option maxRecDepth 10000 in
set_option maxHeartbeats 2000000 in
theorem rput_no (w : World) (rb : Nat) (v : Value) (N : List (List UInt8 × Nd)) (h : RT w rb v N) (p a b : List UInt8) (hab0 : p = a ++ 47 :: b) (hb : (47 : UInt8) ∉ b) (hs : (⟨p.toArray⟩ : ByteArray).size ≤ 1000000) (nd pn : Nd) (hpn : N.lookup (parOf p) = some pn) (c : Int) (hmy : (mayOk nd.owner 2 pn.owner pn.mode = false ∧ c = 114) ∨ (mayOk nd.owner 2 pn.owner pn.mode = true ∧ 64 ≤ N.length ∧ c = 2)) :
    Calls Tryz.prog 62 #[.pointer (some ⟨rb, 0, none⟩), .agg (ndC (p, nd)).toArray] w fun e w' => e = .returned (.int .i64 c) ∧ w.grownBy w' none := by
  rcases hmy with ⟨hmy, rfl⟩ | ⟨hmy, h64, rfl⟩
  · obtain ⟨k, hk, hkx⟩ := look_some h.nodup hpn
    have B0 := Lib.hid (CB.new w 63 (ndC (p, nd)))
    obtain ⟨wa, hwa⟩ : ∃ x, x = w.alloc (.cells (ndC (p, nd)).toArray 63) := ⟨_, rfl⟩
    have hga : w.grownBy wa none := by rw [hwa]; exact grown_alloc _ _ _
    rw [← hwa] at B0
    have HGA := Lib.hid hga
    have HWA := Lib.hid hwa
    have HT := Lib.hid h
    have HK := Lib.hid hk
    obtain ⟨ab, ao, cap, hv, hab, hkn, hcl⟩ := (h.far hga (by simp) (by simp) (by simp)).elem hkx
    obtain ⟨n, hn⟩ : ∃ n, N.length = n := ⟨_, rfl⟩
    have htop := (h.far hga (by simp) (by simp) (by simp)).top
    rw [hv, hn] at htop
    rw [hn] at hkn
    have HN := Lib.hid hn
    have HN64 := Lib.hid (show n ≤ 64 by rw [← hn]; exact h.len)
    have hki : (k : Int) < (n : Int) := by omega
    have hk0 : ¬ (k : Int) < 0 := by omega
    have HPM := Lib.hid (h.mode _ (List.mem_of_getElem? hkx))
    have HMY := Lib.hid hmy
    have PR := Lib.hid (fun W => refParent_any ⟨p.toArray⟩ p a b rfl hab0 hb hs W)
    have HCO := Lib.hid (fun (wx : World) (hx : wa.grownBy wx none) => (B0.out.kept hx).at_ (i := 2) (v := .string nd.owner) rfl)
    have HCP := Lib.hid (fun (wx : World) (hx : wa.grownBy wx none) => (B0.out.kept hx).at_ (i := 0) (v := .string ⟨p.toArray⟩) rfl)
    have HCT := Lib.hid (fun (wx : World) (hx : wa.grownBy wx none) => (htop.kept hx).at_ (i := 0) (v := .slice (some ⟨ab, ao, none⟩) n cap) rfl)
    have HCX := Lib.hid (fun (wx : World) (hx : wa.grownBy wx none) (j : Nat) (u : Value) (hj : (ndC (parOf p, pn))[j]? = some u) => ((below_of_none hx).cell (p := ⟨ab, ao + k * 5 + j, none⟩) hab).trans (hcl j u hj))

    clear h hk hkx hv hab hkn hcl htop hn hmy hab0 hb hs hpn hga hwa
    go_enter Tryz.func62, Tryz.ntmps62
    go_wp2
    rw [show w.alloc (.cells (ndC (p, nd)).toArray 63) = wa from HWA.out.symm]
    refine helds_begin (fun W => wa.grownBy W none) (by kernel_rfl) (grown_drew (World.grownBy.refl _ _)) (fun _ => ?_)
    refine helds_take (i := 0) (d := some 8) (v := ?vUB_1) (by assumption) rfl rfl (by kernel_rfl) (fun _ _ _ h => h) ?yUB_1 ?_; case yUB_1 => (refine Or.inl ⟨rfl, fun wx hS => ?_⟩; go_simp; try with_reducible rfl)
    try simp only [Act.put, List.setIfInBounds_toArray, List.set_cons_zero, List.set_cons_succ]
    refine helds_take (i := 1) (d := some 9) (v := ?vUB_2) (by assumption) rfl rfl (by kernel_rfl) (fun _ _ _ h => h) ?yUB_2 ?_; case yUB_2 => (refine Or.inl ⟨rfl, fun wx hS => ?_⟩; have hk := HCO.out wx hS; go_simp; try with_reducible rfl)
    try simp only [Act.put, List.setIfInBounds_toArray, List.set_cons_zero, List.set_cons_succ]
    refine helds_take (i := 2) (d := some 10) (v := ?vUB_3) (by assumption) rfl rfl (by kernel_rfl) (fun _ _ _ h => h) ?yUB_3 ?_; case yUB_3 => (refine Or.inl ⟨rfl, fun wx hS => ?_⟩; go_simp; try with_reducible rfl)
    try simp only [Act.put, List.setIfInBounds_toArray, List.set_cons_zero, List.set_cons_succ]
    refine helds_take (i := 3) (d := some 11) (v := ?vUB_4) (by assumption) rfl rfl (by kernel_rfl) (fun _ _ _ h => h) ?yUB_4 ?_; case yUB_4 => (refine Or.inl ⟨rfl, fun wx hS => ?_⟩; go_simp; try with_reducible rfl)
    try simp only [Act.put, List.setIfInBounds_toArray, List.set_cons_zero, List.set_cons_succ]
    refine helds_take (i := 4) (d := some 12) (v := ?vUB_5) (by assumption) rfl rfl (by kernel_rfl) (fun _ _ _ h => h) ?yUB_5 ?_; case yUB_5 => (refine Or.inl ⟨rfl, fun wx hS => ?_⟩; go_simp; try with_reducible rfl)
    try simp only [Act.put, List.setIfInBounds_toArray, List.set_cons_zero, List.set_cons_succ]
    refine helds_take (i := 5) (d := some 13) (v := ?vUB_6) (by assumption) rfl rfl (by kernel_rfl) (fun _ _ _ h => h) ?yUB_6 ?_; case yUB_6 => (refine Or.inl ⟨rfl, fun wx hS => ?_⟩; have hk := HCT.out wx hS; go_simp; try with_reducible rfl)
    try simp only [Act.put, List.setIfInBounds_toArray, List.set_cons_zero, List.set_cons_succ]
    refine helds_take (i := 6) (d := some 14) (v := ?vUB_7) (by assumption) rfl rfl (by kernel_rfl) (fun _ _ _ h => h) ?yUB_7 ?_; case yUB_7 => (refine Or.inl ⟨rfl, fun wx hS => ?_⟩; go_simp; try with_reducible rfl)
    try simp only [Act.put, List.setIfInBounds_toArray, List.set_cons_zero, List.set_cons_succ]
    refine helds_take (i := 7) (d := some 15) (v := ?vUB_8) (by assumption) rfl rfl (by kernel_rfl) (fun _ _ _ h => h) ?yUB_8 ?_; case yUB_8 => (refine Or.inl ⟨rfl, fun wx hS => ?_⟩; go_simp; try with_reducible rfl)
    try simp only [Act.put, List.setIfInBounds_toArray, List.set_cons_zero, List.set_cons_succ]
    refine helds_take (i := 8) (d := some 16) (v := ?vUB_9) (by assumption) rfl rfl (by kernel_rfl) (fun _ _ _ h => h) ?yUB_9 ?_; case yUB_9 => (refine Or.inl ⟨rfl, fun wx hS => ?_⟩; have hk := HCP.out wx hS; go_simp; try with_reducible rfl)
    try simp only [Act.put, List.setIfInBounds_toArray, List.set_cons_zero, List.set_cons_succ]
    refine helds_one (i := 9) rfl (by kernel_rfl) rfl (fun K hK => ?_)
    refine wp_callU (d := some 17) (f := 55) (args := #[.string ⟨p.toArray⟩]) rfl (by first | rfl | go_simp) ?_
    refine (PR.out _).mono ?_
    rintro e w5 ⟨rfl, rfl⟩
    refine ⟨_, rfl, ?_⟩
    refine hK.out _ _ (by assumption) (fun _ => ?_)
    clear hK K
    try simp only [Act.put, List.setIfInBounds_toArray, List.set_cons_zero, List.set_cons_succ]
    refine helds_one (i := 10) rfl (by kernel_rfl) rfl (fun K hK => ?_)
    refine wp_callU (d := some 18) (f := 54) (args := #[.pointer (some ⟨rb, 0, none⟩), .string ⟨(parOf p).toArray⟩]) rfl (by first | rfl | go_simp) ?_
    refine (rat_yes _ rb v N (HT.out.far (grown_trans' HGA.out (by assumption)) (by simp) (by simp) (by simp)) (parOf p) k HK.out).mono ?_
    rintro e w6 ⟨rfl, rfl⟩
    refine ⟨_, rfl, ?_⟩
    refine hK.out _ _ (by assumption) (fun _ => ?_)
    clear hK K
    try simp only [Act.put, List.setIfInBounds_toArray, List.set_cons_zero, List.set_cons_succ]
    refine helds_take (i := 11) (d := some 19) (v := ?vUB_10) (by assumption) rfl rfl (by kernel_rfl) (fun _ _ _ h => h) ?yUB_10 ?_; case yUB_10 => (refine Or.inl ⟨rfl, fun wx hS => ?_⟩; go_simp; try with_reducible rfl)
    try simp only [Act.put, List.setIfInBounds_toArray, List.set_cons_zero, List.set_cons_succ]
    refine helds_take (i := 12) (d := some 20) (v := _) (by assumption) rfl rfl (by kernel_rfl) (fun _ _ _ h => h) (yields_loadX (p := ndC (parOf p, pn)) (b := ab) (off := ao + k * 5) aggNd (.tmp 19) rfl rfl HCX.out rfl (by first | rfl | go_simp)) ?_
    try simp only [Act.put, List.setIfInBounds_toArray, List.set_cons_zero, List.set_cons_succ]
    refine helds_one (i := 13) rfl (by kernel_rfl) rfl (fun K hK => ?_)
    refine wp_callU (d := some 21) (f := 49) (args := #[.string nd.owner, .agg (ndC (parOf p, pn)).toArray, .int .i64 2]) rfl (by first | rfl | go_simp) ?_
    refine (rmay_any _ nd.owner 2 ⟨(parOf p).toArray⟩ pn.owner pn.dir pn.mode pn.data HPM.out (.inr (.inl rfl))).mono ?_
    rw [HMY.out]
    rintro e w7 ⟨rfl, g7⟩
    refine ⟨_, rfl, ?_⟩
    have hS7 : wa.grownBy w7 none := grown_trans' (by assumption) g7
    have GS := Lib.hid hS7
    clear g7
    refine hK.out _ _ (by assumption) (fun _ => ?_)
    clear hK K
    try simp only [Act.put, List.setIfInBounds_toArray, List.set_cons_zero, List.set_cons_succ]
    refine helds_take (i := 14) (d := some 22) (v := ?vUB_12) (by assumption) rfl rfl (by kernel_rfl) (fun _ _ _ h => h) ?yUB_12 ?_; case yUB_12 => (refine Or.inl ⟨rfl, fun wx hS => ?_⟩; go_simp; try with_reducible rfl)
    try simp only [Act.put, List.setIfInBounds_toArray, List.set_cons_zero, List.set_cons_succ]
    refine held_end (by kernel_rfl) ?_ _
    go_wp2
    go_ret
    exact ⟨rfl, grown_trans' HGA.out GS.out⟩
  · obtain ⟨k, hk, hkx⟩ := look_some h.nodup hpn
    have B0 := Lib.hid (CB.new w 63 (ndC (p, nd)))
    obtain ⟨wa, hwa⟩ : ∃ x, x = w.alloc (.cells (ndC (p, nd)).toArray 63) := ⟨_, rfl⟩
    have hga : w.grownBy wa none := by rw [hwa]; exact grown_alloc _ _ _
    rw [← hwa] at B0
    have HGA := Lib.hid hga
    have HWA := Lib.hid hwa
    have HT := Lib.hid h
    have HK := Lib.hid hk
    obtain ⟨ab, ao, cap, hv, hab, hkn, hcl⟩ := (h.far hga (by simp) (by simp) (by simp)).elem hkx
    obtain ⟨n, hn⟩ : ∃ n, N.length = n := ⟨_, rfl⟩
    have htop := (h.far hga (by simp) (by simp) (by simp)).top
    rw [hv, hn] at htop
    rw [hn] at hkn
    have HN := Lib.hid hn
    have HN64 := Lib.hid (show n ≤ 64 by rw [← hn]; exact h.len)
    have hki : (k : Int) < (n : Int) := by omega
    have hk0 : ¬ (k : Int) < 0 := by omega
    have HPM := Lib.hid (h.mode _ (List.mem_of_getElem? hkx))
    have HMY := Lib.hid hmy
    have PR := Lib.hid (fun W => refParent_any ⟨p.toArray⟩ p a b rfl hab0 hb hs W)
    have HCO := Lib.hid (fun (wx : World) (hx : wa.grownBy wx none) => (B0.out.kept hx).at_ (i := 2) (v := .string nd.owner) rfl)
    have HCP := Lib.hid (fun (wx : World) (hx : wa.grownBy wx none) => (B0.out.kept hx).at_ (i := 0) (v := .string ⟨p.toArray⟩) rfl)
    have HCT := Lib.hid (fun (wx : World) (hx : wa.grownBy wx none) => (htop.kept hx).at_ (i := 0) (v := .slice (some ⟨ab, ao, none⟩) n cap) rfl)
    have HCX := Lib.hid (fun (wx : World) (hx : wa.grownBy wx none) (j : Nat) (u : Value) (hj : (ndC (parOf p, pn))[j]? = some u) => ((below_of_none hx).cell (p := ⟨ab, ao + k * 5 + j, none⟩) hab).trans (hcl j u hj))
    have h64i : (64 : Int) ≤ (n : Int) := by omega
    clear h64
    clear h hk hkx hv hab hkn hcl htop hn hmy hab0 hb hs hpn hga hwa
    go_enter Tryz.func62, Tryz.ntmps62
    go_wp2
    rw [show w.alloc (.cells (ndC (p, nd)).toArray 63) = wa from HWA.out.symm]
    refine helds_begin (fun W => wa.grownBy W none) (by kernel_rfl) (grown_drew (World.grownBy.refl _ _)) (fun _ => ?_)
    refine helds_take (i := 0) (d := some 8) (v := ?vUC_1) (by assumption) rfl rfl (by kernel_rfl) (fun _ _ _ h => h) ?yUC_1 ?_; case yUC_1 => (refine Or.inl ⟨rfl, fun wx hS => ?_⟩; go_simp; try with_reducible rfl)
    try simp only [Act.put, List.setIfInBounds_toArray, List.set_cons_zero, List.set_cons_succ]
    refine helds_take (i := 1) (d := some 9) (v := ?vUC_2) (by assumption) rfl rfl (by kernel_rfl) (fun _ _ _ h => h) ?yUC_2 ?_; case yUC_2 => (refine Or.inl ⟨rfl, fun wx hS => ?_⟩; have hk := HCO.out wx hS; go_simp; try with_reducible rfl)
    try simp only [Act.put, List.setIfInBounds_toArray, List.set_cons_zero, List.set_cons_succ]
    refine helds_take (i := 2) (d := some 10) (v := ?vUC_3) (by assumption) rfl rfl (by kernel_rfl) (fun _ _ _ h => h) ?yUC_3 ?_; case yUC_3 => (refine Or.inl ⟨rfl, fun wx hS => ?_⟩; go_simp; try with_reducible rfl)
    try simp only [Act.put, List.setIfInBounds_toArray, List.set_cons_zero, List.set_cons_succ]
    refine helds_take (i := 3) (d := some 11) (v := ?vUC_4) (by assumption) rfl rfl (by kernel_rfl) (fun _ _ _ h => h) ?yUC_4 ?_; case yUC_4 => (refine Or.inl ⟨rfl, fun wx hS => ?_⟩; go_simp; try with_reducible rfl)
    try simp only [Act.put, List.setIfInBounds_toArray, List.set_cons_zero, List.set_cons_succ]
    refine helds_take (i := 4) (d := some 12) (v := ?vUC_5) (by assumption) rfl rfl (by kernel_rfl) (fun _ _ _ h => h) ?yUC_5 ?_; case yUC_5 => (refine Or.inl ⟨rfl, fun wx hS => ?_⟩; go_simp; try with_reducible rfl)
    try simp only [Act.put, List.setIfInBounds_toArray, List.set_cons_zero, List.set_cons_succ]
    refine helds_take (i := 5) (d := some 13) (v := ?vUC_6) (by assumption) rfl rfl (by kernel_rfl) (fun _ _ _ h => h) ?yUC_6 ?_; case yUC_6 => (refine Or.inl ⟨rfl, fun wx hS => ?_⟩; have hk := HCT.out wx hS; go_simp; try with_reducible rfl)
    try simp only [Act.put, List.setIfInBounds_toArray, List.set_cons_zero, List.set_cons_succ]
    refine helds_take (i := 6) (d := some 14) (v := ?vUC_7) (by assumption) rfl rfl (by kernel_rfl) (fun _ _ _ h => h) ?yUC_7 ?_; case yUC_7 => (refine Or.inl ⟨rfl, fun wx hS => ?_⟩; go_simp; try with_reducible rfl)
    try simp only [Act.put, List.setIfInBounds_toArray, List.set_cons_zero, List.set_cons_succ]
    refine helds_take (i := 7) (d := some 15) (v := ?vUC_8) (by assumption) rfl rfl (by kernel_rfl) (fun _ _ _ h => h) ?yUC_8 ?_; case yUC_8 => (refine Or.inl ⟨rfl, fun wx hS => ?_⟩; go_simp; try with_reducible rfl)
    try simp only [Act.put, List.setIfInBounds_toArray, List.set_cons_zero, List.set_cons_succ]
    refine helds_take (i := 8) (d := some 16) (v := ?vUC_9) (by assumption) rfl rfl (by kernel_rfl) (fun _ _ _ h => h) ?yUC_9 ?_; case yUC_9 => (refine Or.inl ⟨rfl, fun wx hS => ?_⟩; have hk := HCP.out wx hS; go_simp; try with_reducible rfl)
    try simp only [Act.put, List.setIfInBounds_toArray, List.set_cons_zero, List.set_cons_succ]
    refine helds_one (i := 9) rfl (by kernel_rfl) rfl (fun K hK => ?_)
    refine wp_callU (d := some 17) (f := 55) (args := #[.string ⟨p.toArray⟩]) rfl (by first | rfl | go_simp) ?_
    refine (PR.out _).mono ?_
    rintro e w5 ⟨rfl, rfl⟩
    refine ⟨_, rfl, ?_⟩
    refine hK.out _ _ (by assumption) (fun _ => ?_)
    clear hK K
    try simp only [Act.put, List.setIfInBounds_toArray, List.set_cons_zero, List.set_cons_succ]
    refine helds_one (i := 10) rfl (by kernel_rfl) rfl (fun K hK => ?_)
    refine wp_callU (d := some 18) (f := 54) (args := #[.pointer (some ⟨rb, 0, none⟩), .string ⟨(parOf p).toArray⟩]) rfl (by first | rfl | go_simp) ?_
    refine (rat_yes _ rb v N (HT.out.far (grown_trans' HGA.out (by assumption)) (by simp) (by simp) (by simp)) (parOf p) k HK.out).mono ?_
    rintro e w6 ⟨rfl, rfl⟩
    refine ⟨_, rfl, ?_⟩
    refine hK.out _ _ (by assumption) (fun _ => ?_)
    clear hK K
    try simp only [Act.put, List.setIfInBounds_toArray, List.set_cons_zero, List.set_cons_succ]
    refine helds_take (i := 11) (d := some 19) (v := ?vUC_10) (by assumption) rfl rfl (by kernel_rfl) (fun _ _ _ h => h) ?yUC_10 ?_; case yUC_10 => (refine Or.inl ⟨rfl, fun wx hS => ?_⟩; go_simp; try with_reducible rfl)
    try simp only [Act.put, List.setIfInBounds_toArray, List.set_cons_zero, List.set_cons_succ]
    refine helds_take (i := 12) (d := some 20) (v := _) (by assumption) rfl rfl (by kernel_rfl) (fun _ _ _ h => h) (yields_loadX (p := ndC (parOf p, pn)) (b := ab) (off := ao + k * 5) aggNd (.tmp 19) rfl rfl HCX.out rfl (by first | rfl | go_simp)) ?_
    try simp only [Act.put, List.setIfInBounds_toArray, List.set_cons_zero, List.set_cons_succ]
    refine helds_one (i := 13) rfl (by kernel_rfl) rfl (fun K hK => ?_)
    refine wp_callU (d := some 21) (f := 49) (args := #[.string nd.owner, .agg (ndC (parOf p, pn)).toArray, .int .i64 2]) rfl (by first | rfl | go_simp) ?_
    refine (rmay_any _ nd.owner 2 ⟨(parOf p).toArray⟩ pn.owner pn.dir pn.mode pn.data HPM.out (.inr (.inl rfl))).mono ?_
    rw [HMY.out]
    rintro e w7 ⟨rfl, g7⟩
    refine ⟨_, rfl, ?_⟩
    have hS7 : wa.grownBy w7 none := grown_trans' (by assumption) g7
    have GS := Lib.hid hS7
    clear g7
    refine hK.out _ _ (by assumption) (fun _ => ?_)
    clear hK K
    try simp only [Act.put, List.setIfInBounds_toArray, List.set_cons_zero, List.set_cons_succ]
    refine helds_take (i := 14) (d := some 22) (v := ?vUC_12) (by assumption) rfl rfl (by kernel_rfl) (fun _ _ _ h => h) ?yUC_12 ?_; case yUC_12 => (refine Or.inl ⟨rfl, fun wx hS => ?_⟩; go_simp; try with_reducible rfl)
    try simp only [Act.put, List.setIfInBounds_toArray, List.set_cons_zero, List.set_cons_succ]
    refine held_end (by kernel_rfl) ?_ _
    have q0 := HCT.out _ GS.out
    go_wp2
    go_ret
    exact ⟨rfl, grown_trans' HGA.out GS.out⟩
set_option maxRecDepth 10000 in
set_option maxHeartbeats 4000000 in
theorem rput_ok (w : World) (rb : Nat) (v : Value) (N : List (List UInt8 × Nd)) (h : RT w rb v N) (p a b : List UInt8) (hab0 : p = a ++ 47 :: b) (hb : (47 : UInt8) ∉ b) (hs : (⟨p.toArray⟩ : ByteArray).size ≤ 1000000) (nd pn : Nd) (hpn : N.lookup (parOf p) = some pn) (hmy : mayOk nd.owner 2 pn.owner pn.mode = true) (hl : N.length < 64) (hout : N.lookup p = none) (l : List UInt8) (hdat : OwnB w 0 5 nd.data l) (hll : l.length ≤ 1000000) (hmo : nd.mode < 64) :
    Calls Tryz.prog 62 #[.pointer (some ⟨rb, 0, none⟩), .agg (ndC (p, nd)).toArray] w fun e w' => e = .returned (.int .i64 0) ∧ PutRes w w' rb N (p, nd) := by
  obtain ⟨k, hk, hkx⟩ := look_some h.nodup hpn
  have B0 := Lib.hid (CB.new w 63 (ndC (p, nd)))
  obtain ⟨wa, hwa⟩ : ∃ x, x = w.alloc (.cells (ndC (p, nd)).toArray 63) := ⟨_, rfl⟩
  have hga : w.grownBy wa none := by rw [hwa]; exact grown_alloc _ _ _
  rw [← hwa] at B0
  have HGA := Lib.hid hga
  have HWA := Lib.hid hwa
  have HT := Lib.hid h
  have HK := Lib.hid hk
  obtain ⟨ab, ao, cap, hv, hab, hkn, hcl⟩ := (h.far hga (by simp) (by simp) (by simp)).elem hkx
  obtain ⟨n, hn⟩ : ∃ n, N.length = n := ⟨_, rfl⟩
  have htop := (h.far hga (by simp) (by simp) (by simp)).top
  rw [hv, hn] at htop
  rw [hn] at hkn
  have HN := Lib.hid hn
  have HN64 := Lib.hid (show n ≤ 64 by rw [← hn]; exact h.len)
  have hki : (k : Int) < (n : Int) := by omega
  have hk0 : ¬ (k : Int) < 0 := by omega
  have HPM := Lib.hid (h.mode _ (List.mem_of_getElem? hkx))
  have HMY := Lib.hid hmy
  have PR := Lib.hid (fun W => refParent_any ⟨p.toArray⟩ p a b rfl hab0 hb hs W)
  have HCO := Lib.hid (fun (wx : World) (hx : wa.grownBy wx none) => (B0.out.kept hx).at_ (i := 2) (v := .string nd.owner) rfl)
  have HCP := Lib.hid (fun (wx : World) (hx : wa.grownBy wx none) => (B0.out.kept hx).at_ (i := 0) (v := .string ⟨p.toArray⟩) rfl)
  have HCT := Lib.hid (fun (wx : World) (hx : wa.grownBy wx none) => (htop.kept hx).at_ (i := 0) (v := .slice (some ⟨ab, ao, none⟩) n cap) rfl)
  have HCX := Lib.hid (fun (wx : World) (hx : wa.grownBy wx none) (j : Nat) (u : Value) (hj : (ndC (parOf p, pn))[j]? = some u) => ((below_of_none hx).cell (p := ⟨ab, ao + k * 5 + j, none⟩) hab).trans (hcl j u hj))
  have hl64 : ¬ (64 : Int) ≤ (n : Int) := by omega
  have HN64L := Lib.hid (show n < 64 by omega)
  have HNAME := Lib.hid (show ∀ x ∈ N, nmT x ≠ nmT (p, nd) from fun x hx => atS_none.1 (look_none hout) x hx)
  have HDAT := Lib.hid hdat
  have HLL := Lib.hid hll
  have HMO := Lib.hid hmo
  have ndC_oneE := ndC_one (p, nd) hdat.oneCell
  have HONE := Lib.hid ndC_oneE
  have HONX := Lib.hid (show ∀ x ∈ N, ∀ u ∈ ndC x, u.oneCell' = true from fun x hx => by obtain ⟨l, h1, -⟩ := h.dat x hx; exact ndC_one x h1.oneCell)
  have HTOP := Lib.hid htop
  have HVE := Lib.hid hv
  clear h hk hkx hv hab hkn hcl htop hn hmy hab0 hb hs hpn hga hwa hl hout hdat hll hmo ndC_oneE
  go_enter Tryz.func62, Tryz.ntmps62
  go_wp2
  rw [show w.alloc (.cells (ndC (p, nd)).toArray 63) = wa from HWA.out.symm]
  refine helds_begin (fun W => wa.grownBy W none) (by kernel_rfl) (grown_drew (World.grownBy.refl _ _)) (fun _ => ?_)
  refine helds_take (i := 0) (d := some 8) (v := ?vUD_1) (by assumption) rfl rfl (by kernel_rfl) (fun _ _ _ h => h) ?yUD_1 ?_; case yUD_1 => (refine Or.inl ⟨rfl, fun wx hS => ?_⟩; go_simp; try with_reducible rfl)
  try simp only [Act.put, List.setIfInBounds_toArray, List.set_cons_zero, List.set_cons_succ]
  refine helds_take (i := 1) (d := some 9) (v := ?vUD_2) (by assumption) rfl rfl (by kernel_rfl) (fun _ _ _ h => h) ?yUD_2 ?_; case yUD_2 => (refine Or.inl ⟨rfl, fun wx hS => ?_⟩; have hk := HCO.out wx hS; go_simp; try with_reducible rfl)
  try simp only [Act.put, List.setIfInBounds_toArray, List.set_cons_zero, List.set_cons_succ]
  refine helds_take (i := 2) (d := some 10) (v := ?vUD_3) (by assumption) rfl rfl (by kernel_rfl) (fun _ _ _ h => h) ?yUD_3 ?_; case yUD_3 => (refine Or.inl ⟨rfl, fun wx hS => ?_⟩; go_simp; try with_reducible rfl)
  try simp only [Act.put, List.setIfInBounds_toArray, List.set_cons_zero, List.set_cons_succ]
  refine helds_take (i := 3) (d := some 11) (v := ?vUD_4) (by assumption) rfl rfl (by kernel_rfl) (fun _ _ _ h => h) ?yUD_4 ?_; case yUD_4 => (refine Or.inl ⟨rfl, fun wx hS => ?_⟩; go_simp; try with_reducible rfl)
  try simp only [Act.put, List.setIfInBounds_toArray, List.set_cons_zero, List.set_cons_succ]
  refine helds_take (i := 4) (d := some 12) (v := ?vUD_5) (by assumption) rfl rfl (by kernel_rfl) (fun _ _ _ h => h) ?yUD_5 ?_; case yUD_5 => (refine Or.inl ⟨rfl, fun wx hS => ?_⟩; go_simp; try with_reducible rfl)
  try simp only [Act.put, List.setIfInBounds_toArray, List.set_cons_zero, List.set_cons_succ]
  refine helds_take (i := 5) (d := some 13) (v := ?vUD_6) (by assumption) rfl rfl (by kernel_rfl) (fun _ _ _ h => h) ?yUD_6 ?_; case yUD_6 => (refine Or.inl ⟨rfl, fun wx hS => ?_⟩; have hk := HCT.out wx hS; go_simp; try with_reducible rfl)
  try simp only [Act.put, List.setIfInBounds_toArray, List.set_cons_zero, List.set_cons_succ]
  refine helds_take (i := 6) (d := some 14) (v := ?vUD_7) (by assumption) rfl rfl (by kernel_rfl) (fun _ _ _ h => h) ?yUD_7 ?_; case yUD_7 => (refine Or.inl ⟨rfl, fun wx hS => ?_⟩; go_simp; try with_reducible rfl)
  try simp only [Act.put, List.setIfInBounds_toArray, List.set_cons_zero, List.set_cons_succ]
  refine helds_take (i := 7) (d := some 15) (v := ?vUD_8) (by assumption) rfl rfl (by kernel_rfl) (fun _ _ _ h => h) ?yUD_8 ?_; case yUD_8 => (refine Or.inl ⟨rfl, fun wx hS => ?_⟩; go_simp; try with_reducible rfl)
  try simp only [Act.put, List.setIfInBounds_toArray, List.set_cons_zero, List.set_cons_succ]
  refine helds_take (i := 8) (d := some 16) (v := ?vUD_9) (by assumption) rfl rfl (by kernel_rfl) (fun _ _ _ h => h) ?yUD_9 ?_; case yUD_9 => (refine Or.inl ⟨rfl, fun wx hS => ?_⟩; have hk := HCP.out wx hS; go_simp; try with_reducible rfl)
  try simp only [Act.put, List.setIfInBounds_toArray, List.set_cons_zero, List.set_cons_succ]
  refine helds_one (i := 9) rfl (by kernel_rfl) rfl (fun K hK => ?_)
  refine wp_callU (d := some 17) (f := 55) (args := #[.string ⟨p.toArray⟩]) rfl (by first | rfl | go_simp) ?_
  refine (PR.out _).mono ?_
  rintro e w5 ⟨rfl, rfl⟩
  refine ⟨_, rfl, ?_⟩
  refine hK.out _ _ (by assumption) (fun _ => ?_)
  clear hK K
  try simp only [Act.put, List.setIfInBounds_toArray, List.set_cons_zero, List.set_cons_succ]
  refine helds_one (i := 10) rfl (by kernel_rfl) rfl (fun K hK => ?_)
  refine wp_callU (d := some 18) (f := 54) (args := #[.pointer (some ⟨rb, 0, none⟩), .string ⟨(parOf p).toArray⟩]) rfl (by first | rfl | go_simp) ?_
  refine (rat_yes _ rb v N (HT.out.far (grown_trans' HGA.out (by assumption)) (by simp) (by simp) (by simp)) (parOf p) k HK.out).mono ?_
  rintro e w6 ⟨rfl, rfl⟩
  refine ⟨_, rfl, ?_⟩
  refine hK.out _ _ (by assumption) (fun _ => ?_)
  clear hK K
  try simp only [Act.put, List.setIfInBounds_toArray, List.set_cons_zero, List.set_cons_succ]
  refine helds_take (i := 11) (d := some 19) (v := ?vUD_10) (by assumption) rfl rfl (by kernel_rfl) (fun _ _ _ h => h) ?yUD_10 ?_; case yUD_10 => (refine Or.inl ⟨rfl, fun wx hS => ?_⟩; go_simp; try with_reducible rfl)
  try simp only [Act.put, List.setIfInBounds_toArray, List.set_cons_zero, List.set_cons_succ]
  refine helds_take (i := 12) (d := some 20) (v := _) (by assumption) rfl rfl (by kernel_rfl) (fun _ _ _ h => h) (yields_loadX (p := ndC (parOf p, pn)) (b := ab) (off := ao + k * 5) aggNd (.tmp 19) rfl rfl HCX.out rfl (by first | rfl | go_simp)) ?_
  try simp only [Act.put, List.setIfInBounds_toArray, List.set_cons_zero, List.set_cons_succ]
  refine helds_one (i := 13) rfl (by kernel_rfl) rfl (fun K hK => ?_)
  refine wp_callU (d := some 21) (f := 49) (args := #[.string nd.owner, .agg (ndC (parOf p, pn)).toArray, .int .i64 2]) rfl (by first | rfl | go_simp) ?_
  refine (rmay_any _ nd.owner 2 ⟨(parOf p).toArray⟩ pn.owner pn.dir pn.mode pn.data HPM.out (.inr (.inl rfl))).mono ?_
  rw [HMY.out]
  rintro e w7 ⟨rfl, g7⟩
  refine ⟨_, rfl, ?_⟩
  have hS7 : wa.grownBy w7 none := grown_trans' (by assumption) g7
  have GS := Lib.hid hS7
  clear g7
  refine hK.out _ _ (by assumption) (fun _ => ?_)
  clear hK K
  try simp only [Act.put, List.setIfInBounds_toArray, List.set_cons_zero, List.set_cons_succ]
  refine helds_take (i := 14) (d := some 22) (v := ?vUD_12) (by assumption) rfl rfl (by kernel_rfl) (fun _ _ _ h => h) ?yUD_12 ?_; case yUD_12 => (refine Or.inl ⟨rfl, fun wx hS => ?_⟩; go_simp; try with_reducible rfl)
  try simp only [Act.put, List.setIfInBounds_toArray, List.set_cons_zero, List.set_cons_succ]
  refine held_end (by kernel_rfl) ?_ _
  have q00 := HCT.out _ GS.out
  obtain ⟨wb, hwb⟩ : ∃ x, x = w7 := ⟨_, rfl⟩
  rw [← hwb] at GS q00 ⊢
  have S1 := Lib.hid (HT.out.far (grown_trans' HGA.out GS.out) (by simp) (by simp) (by simp))
  have HCB1 := Lib.hid (HTOP.out.kept GS.out)
  have B1 := Lib.hid (B0.out.kept GS.out)
  clear hwb
  go_wp2
  clear q00 hki hk0 hl64
  have SZ := Lib.hid S1.out
  go_loopw [5, 6, 7] (fun ov dv iv wr => ∃ (k : Nat) (d : Bool) (o : List (List UInt8 × Nd)), k ≤ n ∧ iv = .int .i64 k ∧ dv = .bool d ∧ PrtT N (p, nd) k d o ∧ RowX wr wb.heap.size 63 5 ov (o.map ndC) ∧ wb.grownBy wr none) (fun _ _ iv _ => n - (intOf iv).toNat)
  case atStart => exact ⟨0, false, [], Nat.zero_le _, rfl, rfl, PrtT.start N (p, nd), RowX.new0 _ _ _ _ (Nat.le_refl _), grown_alloc _ _ _⟩
  case round =>
    obtain ⟨k, d, o, hk, rfl, rfl, hprt, hrow, hW⟩ := hrel
    have HW := Lib.hid hW
    have ROW := Lib.hid hrow
    have PRT := Lib.hid hprt
    have hn0 := HN64L.out
    have HLO := Lib.hid (show o.length ≤ 65 by have := hprt.len; omega)
    have HLR := Lib.hid (show (o.map ndC).length ≤ 1000000000 by rw [List.length_map]; have := HLO.out; omega)
    clear hW hrow hprt
    by_cases hlt : k < n
    · have hlti : (k : Int) < (n : Int) := by omega
      have hkE : k < N.length := by rw [HN.out]; exact hlt
      obtain ⟨x, hx⟩ : ∃ x, N[k]? = some x := ⟨_, List.getElem?_eq_getElem hkE⟩
      have HX := Lib.hid hx
      obtain ⟨ab2, ao2, cap2, hfix, -⟩ := rt_fix S1.out hx B1.out
      rw [HN.out] at hfix
      have FIX := Lib.hid hfix
      have HOX := Lib.hid (HONX.out x (List.mem_of_getElem? hx))
      have hxn : x.1 ≠ p := HNAME.out x (List.mem_of_getElem? hx)
      have q0 := (FIX.out _ HW.out).1.at_ (i := 0) (v := .slice (some ⟨ab2, ao2, none⟩) n cap2) rfl
      have q1 := (FIX.out _ HW.out).2.1 0 (.string ⟨x.1.toArray⟩) rfl
      rw [Nat.add_zero] at q1
      have q4 := (FIX.out _ HW.out).2.2.at_ (i := 0) (v := .string ⟨p.toArray⟩) rfl
      have dq : (x.1 == p) = false := by simpa using hxn
      clear hfix hx
      cases d with
      | true =>
          have HMA := Lib.hid (show (o ++ [x]).map ndC = o.map ndC ++ [ndC x] by rw [List.map_append]; rfl)
          go_wp2
          go_quiet (fail)
          have GZ := Lib.hid (grown_trans' HW.out (drewN_grown wr nq))
          have RZ := Lib.hid (ROW.out.none (drewN_grown wr nq))
          clear q0 q1 q4
          generalize World.drewN wr nq = wz at *
          have q5 := (FIX.out _ GZ.out).1.at_ (i := 0) (v := .slice (some ⟨ab2, ao2, none⟩) n cap2) rfl
          have TK0 := Lib.hid True.intro
          go_wp2_with (first
            | (have hx := TK0; clear hx TK0; refine wpList_loadX (p := ndC x) aggNd rfl (.tmp 64) rfl (b := ab2) (off := ao2 + k * 5) (FIX.out _ GZ.out).2.1 rfl (by first | rfl | go_simp) ?_; have TK1 := Lib.hid True.intro)
            | (have hx := TK1; clear hx TK1; refine wpList_lit1 (p := ndC x) Tryz.underlying43 aggNd.hi zeroNd_run rfl (by omega) (by omega) rfl (.tmp 65) rfl (by first | rfl | go_simp) ?_; have RL6 := Lib.hid (RZ.out.none (grown_alloc wz (.cells (ndC x).toArray 63) none)); have C6 := Lib.hid (CB.new wz 63 (ndC x)); have W6 := Lib.hid (grown_trans' GZ.out (grown_alloc wz (.cells (ndC x).toArray 63) none)); have TK2 := Lib.hid True.intro)
            | (have hx := TK2; clear hx TK2; refine wpList_appX rowNd rfl (.tmp 58) (.tmp 66) rfl (b := wz.heap.size) (off := 0) (c := 1) RL6.out (fun j v hj => by have := C6.out.at_ hj; rwa [Nat.zero_add]) rfl HOX.out (by first | rfl | go_simp) (by first | rfl | go_simp) HLR.out W6.out.size ?_; intro v7 w7 h5 g5 a5; have RL7 := Lib.hid h5; have W7 := Lib.hid (none_rowB W6.out g5 (fun g hg => (RL6.out.lt g hg).1)); clear h5 g5 a5; have TK3 := Lib.hid True.intro))
          go_roundw
          case rel => exact ⟨k + 1, true, o ++ [x], by omega, by go_num, rfl, PRT.out.on HX.out, by rw [HMA.out]; exact RL7.out, W7.out⟩
          case measure => simp [intOf]; omega
      | false =>
        by_cases hls : nmT (p, nd) < nmT x
        · have dl : Op.bytesLess x.1 p = false := by rw [bytesLess_eq]; exact decide_eq_false (lt_asymmB hls)
          have HLS := Lib.hid hls
          have HMA := Lib.hid (show ((o ++ [(p, nd)]) ++ [x]).map ndC = (o.map ndC ++ [ndC (p, nd)]) ++ [ndC x] by rw [List.map_append, List.map_append]; rfl)
          have HLR2 := Lib.hid (show (o.map ndC ++ [ndC (p, nd)]).length ≤ 1000000000 by rw [List.length_append, List.length_map]; have := HLO.out; simp; omega)
          clear hls hxn
          go_wp2
          go_quiet (fail)
          have GZ := Lib.hid (grown_trans' HW.out (drewN_grown wr nq))
          have RZ := Lib.hid (ROW.out.none (drewN_grown wr nq))
          clear q0 q1 q4
          generalize World.drewN wr nq = wz at *
          have q5 := (FIX.out _ GZ.out).1.at_ (i := 0) (v := .slice (some ⟨ab2, ao2, none⟩) n cap2) rfl
          have TK0 := Lib.hid True.intro
          go_wp2_with (first
            | (have hx := TK0; clear hx TK0; refine wpList_loadC (off := 0) (p := ndC (p, nd)) aggNd rfl (.tmp 3) rfl (FIX.out _ GZ.out).2.2 rfl (by simp [ndC, nodeC]) (by first | rfl | go_simp) ?_; have TK1 := Lib.hid True.intro)
            | (have hx := TK1; clear hx TK1; refine wpList_lit1 (p := ndC (p, nd)) Tryz.underlying43 aggNd.hi zeroNd_run rfl (by omega) (by omega) rfl (.tmp 55) rfl (by first | rfl | go_simp) ?_; have RL4 := Lib.hid (RZ.out.none (grown_alloc wz (.cells (ndC (p, nd)).toArray 63) none)); have C4 := Lib.hid (CB.new wz 63 (ndC (p, nd))); have W4 := Lib.hid (grown_trans' GZ.out (grown_alloc wz (.cells (ndC (p, nd)).toArray 63) none)); have TK2 := Lib.hid True.intro)
            | (have hx := TK2; clear hx TK2; refine wpList_appX rowNd rfl (.tmp 54) (.tmp 56) rfl (b := wz.heap.size) (off := 0) (c := 1) RL4.out (fun j v hj => by have := C4.out.at_ hj; rwa [Nat.zero_add]) rfl HONE.out (by first | rfl | go_simp) (by first | rfl | go_simp) HLR.out W4.out.size ?_; intro v5 w5 h5 g5 a5; have RL5 := Lib.hid h5; have W5 := Lib.hid (none_rowB W4.out g5 (fun g hg => (RL4.out.lt g hg).1)); have q6 := (FIX.out _ W5.out).1.at_ (i := 0) (v := .slice (some ⟨ab2, ao2, none⟩) n cap2) rfl; clear h5 g5 a5; have TK3 := Lib.hid True.intro)
            | (have hx := TK3; clear hx TK3; refine wpList_loadX (p := ndC x) aggNd rfl (.tmp 64) rfl (b := ab2) (off := ao2 + k * 5) (FIX.out _ W5.out).2.1 rfl (by first | rfl | go_simp) ?_; have TK4 := Lib.hid True.intro)
            | (have hx := TK4; clear hx TK4; refine wpList_lit1 (p := ndC x) Tryz.underlying43 aggNd.hi zeroNd_run rfl (by omega) (by omega) rfl (.tmp 65) rfl (by first | rfl | go_simp) ?_; have RL6 := Lib.hid (RL5.out.none (grown_alloc w5 (.cells (ndC x).toArray 63) none)); have C6 := Lib.hid (CB.new w5 63 (ndC x)); have W6 := Lib.hid (grown_trans' W5.out (grown_alloc w5 (.cells (ndC x).toArray 63) none)); have TK5 := Lib.hid True.intro)
            | (have hx := TK5; clear hx TK5; refine wpList_appX rowNd rfl (.tmp 58) (.tmp 66) rfl (b := w5.heap.size) (off := 0) (c := 1) RL6.out (fun j v hj => by have := C6.out.at_ hj; rwa [Nat.zero_add]) rfl HOX.out (by first | rfl | go_simp) (by first | rfl | go_simp) HLR2.out W6.out.size ?_; intro v7 w7 h5 g5 a5; have RL7 := Lib.hid h5; have W7 := Lib.hid (none_rowB W6.out g5 (fun g hg => (RL6.out.lt g hg).1)); clear h5 g5 a5; have TK6 := Lib.hid True.intro))
          go_roundw
          case rel => exact ⟨k + 1, true, (o ++ [(p, nd)]) ++ [x], by omega, by go_num, rfl, PRT.out.put HX.out HLS.out, by rw [HMA.out]; exact RL7.out, W7.out⟩
          case measure => simp [intOf]; omega
        · have dl : Op.bytesLess x.1 p = true := by rw [bytesLess_eq]; exact decide_eq_true (lt_of_not hls (fun q => hxn q.symm))
          have HLS := Lib.hid hls
          have HMA := Lib.hid (show (o ++ [x]).map ndC = o.map ndC ++ [ndC x] by rw [List.map_append]; rfl)
          clear hls hxn
          go_wp2
          go_quiet (fail)
          have GZ := Lib.hid (grown_trans' HW.out (drewN_grown wr nq))
          have RZ := Lib.hid (ROW.out.none (drewN_grown wr nq))
          clear q0 q1 q4
          generalize World.drewN wr nq = wz at *
          have q5 := (FIX.out _ GZ.out).1.at_ (i := 0) (v := .slice (some ⟨ab2, ao2, none⟩) n cap2) rfl
          have TK0 := Lib.hid True.intro
          go_wp2_with (first
            | (have hx := TK0; clear hx TK0; refine wpList_loadX (p := ndC x) aggNd rfl (.tmp 64) rfl (b := ab2) (off := ao2 + k * 5) (FIX.out _ GZ.out).2.1 rfl (by first | rfl | go_simp) ?_; have TK1 := Lib.hid True.intro)
            | (have hx := TK1; clear hx TK1; refine wpList_lit1 (p := ndC x) Tryz.underlying43 aggNd.hi zeroNd_run rfl (by omega) (by omega) rfl (.tmp 65) rfl (by first | rfl | go_simp) ?_; have RL6 := Lib.hid (RZ.out.none (grown_alloc wz (.cells (ndC x).toArray 63) none)); have C6 := Lib.hid (CB.new wz 63 (ndC x)); have W6 := Lib.hid (grown_trans' GZ.out (grown_alloc wz (.cells (ndC x).toArray 63) none)); have TK2 := Lib.hid True.intro)
            | (have hx := TK2; clear hx TK2; refine wpList_appX rowNd rfl (.tmp 58) (.tmp 66) rfl (b := wz.heap.size) (off := 0) (c := 1) RL6.out (fun j v hj => by have := C6.out.at_ hj; rwa [Nat.zero_add]) rfl HOX.out (by first | rfl | go_simp) (by first | rfl | go_simp) HLR.out W6.out.size ?_; intro v7 w7 h5 g5 a5; have RL7 := Lib.hid h5; have W7 := Lib.hid (none_rowB W6.out g5 (fun g hg => (RL6.out.lt g hg).1)); clear h5 g5 a5; have TK3 := Lib.hid True.intro))
          go_roundw
          case rel => exact ⟨k + 1, false, o ++ [x], by omega, by go_num, rfl, PRT.out.pass HX.out HLS.out, by rw [HMA.out]; exact RL7.out, W7.out⟩
          case measure => simp [intOf]; omega
    · have hnlt : ¬ ((k : Int) < (n : Int)) := by omega
      have hkn : k = N.length := by rw [HN.out]; omega
      have HKN := Lib.hid hkn
      have hcm := HCB1.out.kept HW.out
      have q0 := hcm.at_ (i := 0) (v := .slice (some ⟨ab, ao, none⟩) n cap) rfl
      have HCM := Lib.hid hcm
      clear hkn hcm
      cases d with
      | true =>
        have HI := Lib.hid (PRT.out.done HKN.out)
        obtain ⟨Ao, co, hvo, -, -⟩ := ROW.out.shape
        subst hvo
        go_wp2_with (refine wpList_storeC (off := 0) (p := [.slice Ao (o.map ndC).length co]) szNd rfl (.tmp 77) (.tmp 75) rfl (.slice Ao (o.map ndC).length co) rfl (by intro u hu; rw [List.mem_singleton.1 hu]; rfl) HCM.out rfl (by simp) (by first | rfl | go_simp) (by first | rfl | go_simp) ?_; intro w9 h9 g9; rw [over_allT _ _ (by simp)] at h9; have H9 := Lib.hid h9; have G9 := Lib.hid g9; clear h9 g9)
        go_ret
        exact ⟨rfl, _, o, rt_put HT.out HI.out HNAME.out (by rw [HN.out]; exact HN64L.out) H9.out (ROW.out.row G9.out (ROW.out.ne_cells HCM.out (by decide))) (grown_trans' (grown_some (grown_trans' HGA.out (grown_trans' GS.out HW.out)) rb) G9.out) HDAT.out HLL.out HMO.out, HI.out, grown_trans' (grown_some (grown_trans' HGA.out (grown_trans' GS.out HW.out)) rb) G9.out, fun g hg => Nat.le_trans (Nat.le_trans HGA.out.size GS.out.size) (ROW.out.lt g hg).1⟩
      | false =>
        have HI := Lib.hid (PRT.out.last HKN.out)
        have FIX := Lib.hid (show ∀ w', wb.grownBy w' none → True ∧ True ∧ CB w' w.heap.size 63 (ndC (p, nd)) from fun w' hg => ⟨trivial, trivial, B1.out.kept hg⟩)
        have HMA := Lib.hid (show (o ++ [(p, nd)]).map ndC = o.map ndC ++ [ndC (p, nd)] by rw [List.map_append]; rfl)
        have GZ := Lib.hid HW.out
        have TK0 := Lib.hid True.intro
        go_wp2_with (first
          | (have hx := TK0; clear hx TK0; refine wpList_loadC (off := 0) (p := ndC (p, nd)) aggNd rfl (.tmp 3) rfl (FIX.out _ GZ.out).2.2 rfl (by simp [ndC, nodeC]) (by first | rfl | go_simp) ?_; have TK1 := Lib.hid True.intro)
          | (have hx := TK1; clear hx TK1; refine wpList_lit1 (p := ndC (p, nd)) Tryz.underlying43 aggNd.hi zeroNd_run rfl (by omega) (by omega) rfl (.tmp 71) rfl (by first | rfl | go_simp) ?_; have RL4 := Lib.hid (ROW.out.none (grown_alloc wr (.cells (ndC (p, nd)).toArray 63) none)); have C4 := Lib.hid (CB.new wr 63 (ndC (p, nd))); have W4 := Lib.hid (grown_trans' GZ.out (grown_alloc wr (.cells (ndC (p, nd)).toArray 63) none)); have TK2 := Lib.hid True.intro)
          | (have hx := TK2; clear hx TK2; refine wpList_appX rowNd rfl (.tmp 70) (.tmp 72) rfl (b := wr.heap.size) (off := 0) (c := 1) RL4.out (fun j v hj => by have := C4.out.at_ hj; rwa [Nat.zero_add]) rfl HONE.out (by first | rfl | go_simp) (by first | rfl | go_simp) HLR.out W4.out.size ?_; intro v5 w5 h5 g5 a5; have RL5 := Lib.hid h5; have W5 := Lib.hid (none_rowB W4.out g5 (fun g hg => (RL4.out.lt g hg).1)); obtain ⟨Ao, co, hvo, -, -⟩ := h5.shape; subst hvo; have HCM5 := Lib.hid (HCB1.out.kept W5.out); clear h5 g5 a5; have TK3 := Lib.hid True.intro)
          | (have hx := TK3; clear hx TK3; refine wpList_storeC (off := 0) (p := [.slice Ao (o.map ndC ++ [ndC (p, nd)]).length co]) szNd rfl (.tmp 77) (.tmp 75) rfl (.slice Ao (o.map ndC ++ [ndC (p, nd)]).length co) rfl (by intro u hu; rw [List.mem_singleton.1 hu]; rfl) HCM5.out rfl (by simp) (by first | rfl | go_simp) (by first | rfl | go_simp) ?_; intro w9 h9 g9; rw [over_allT _ _ (by simp)] at h9; have H9 := Lib.hid h9; have G9 := Lib.hid g9; clear h9 g9; have TK4 := Lib.hid True.intro))
        go_ret
        exact ⟨rfl, _, o ++ [(p, nd)], rt_put HT.out HI.out HNAME.out (by rw [HN.out]; exact HN64L.out) H9.out (by rw [HMA.out]; exact RL5.out.row G9.out (RL5.out.ne_cells HCM5.out (by decide))) (grown_trans' (grown_some (grown_trans' HGA.out (grown_trans' GS.out W5.out)) rb) G9.out) HDAT.out HLL.out HMO.out, HI.out, grown_trans' (grown_some (grown_trans' HGA.out (grown_trans' GS.out W5.out)) rb) G9.out, fun g hg => Nat.le_trans (Nat.le_trans HGA.out.size GS.out.size) (RL5.out.lt g hg).1⟩
end Go.Proofs.YtlkchajkhplapaaGreatDoor
