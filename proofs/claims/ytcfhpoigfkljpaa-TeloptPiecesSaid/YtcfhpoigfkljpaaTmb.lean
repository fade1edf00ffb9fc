/- The walk of TeloptPieces. -/
import Derived.Test.YtcfhpoigfkljpaaTma
import Derived.Test.YtcfhpoigfkljpaaTlz
namespace Go.Proofs.Ytcfhpoigfkljpaa
open Go.ChangeShapes Go.WideShapes Go.RowKit
set_option linter.unusedVariables false

/-! Numbers in memory. -/
def RI (w : World) (B : Nat) (A : Option Addr) (l : List Int) (cap : Nat) : Prop :=
  l.length ≤ cap ∧ cap ≤ maxLen ∧ ((A = none ∧ cap = 0) ∨ ∃ a, A = some a ∧ ∀ k u, l[k]? = some u → a.block < B ∧ w.cell? (a.add k) = some (.int .i64 u))

section
variable {w w' : World} {B B' cap : Nat} {A : Option Addr} {l : List Int}
theorem RI.nil_ (w : World) (B : Nat) : RI w B none [] 0 := ⟨Nat.le_refl _, Nat.zero_le _, .inl ⟨rfl, rfl⟩⟩
theorem RI.keep (h : RI w B A l cap) (hk : ∀ a : Addr, a.block < B → w'.cell? a = w.cell? a) : RI w' B A l cap :=
  ⟨h.1, h.2.1, h.2.2.imp id fun ⟨a, hA, hc⟩ => ⟨a, hA, fun k u hu => ⟨(hc k u hu).1, (hk _ (by rw [add_block]; exact (hc k u hu).1)).trans (hc k u hu).2⟩⟩⟩
theorem RI.more (h : RI w B A l cap) (hB : B ≤ B') : RI w B' A l cap :=
  ⟨h.1, h.2.1, h.2.2.imp id fun ⟨a, hA, hc⟩ => ⟨a, hA, fun k u hu => ⟨Nat.lt_of_lt_of_le (hc k u hu).1 hB, (hc k u hu).2⟩⟩⟩
theorem RI.below (h : RI w B A l cap) (hb : Below B w w') : RI w' B A l cap := h.keep fun _ hlt => hb.cell hlt
theorem RI.open_ (h : RI w B A l cap) (hp : 0 < l.length) :
    ∃ b off, A = some ⟨b, off, none⟩ ∧ b < B ∧ ∀ k (hk : k < l.length), w.cell? ⟨b, off + k, none⟩ = some (.int .i64 l[k]) := by
  rcases h.2.2 with ⟨_, h0⟩ | ⟨⟨b, off, s⟩, hA, hc⟩
  · have := h.1; omega
  · have hb := (hc 0 _ (List.getElem?_eq_getElem hp)).1
    have h0 := (hc 0 _ (List.getElem?_eq_getElem hp)).2
    have hs : s = none := by simpa [Addr.add] using World.cell?_spot h0
    subst hs
    exact ⟨b, off, hA, hb, fun k hk => by have := (hc k _ (List.getElem?_eq_getElem hk)).2; rwa [Addr.add_lit] at this⟩
theorem RI.of_ints {zs : List Int} {len : Nat}
    (h : (A = none ∧ len = 0 ∧ cap = 0 ∧ zs = []) ∨ ∃ x, A = some x ∧ len ≤ cap ∧ cap ≤ maxLen ∧ zs.length = cap ∧ (∀ i, i < zs.length → w.cell? (x.add i) = some (.int .i64 (zs.getD i 0))) ∧ ∀ n ∈ zs, (Lit.int .i64 n).wf = true) :
    ∃ l : List Int, l.length = len ∧ RI w w.heap.size A l cap := by
  rcases h with ⟨rfl, rfl, rfl, rfl⟩ | ⟨x, rfl, hl, hm, hz, hc, _⟩
  · exact ⟨[], rfl, RI.nil_ _ _⟩
  · have hlen : (zs.take len).length = len := by simp; omega
    refine ⟨zs.take len, hlen, by omega, hm, .inr ⟨x, rfl, fun k u hu => ?_⟩⟩
    have hk : k < len := by rw [← hlen]; exact (List.getElem?_eq_some_iff.1 hu).1
    have hcell := hc k (by omega)
    rw [List.getElem?_take_of_lt hk, List.getElem?_eq_getElem (by omega)] at hu
    have hb : zs.getD k 0 = zs[k]'(by omega) := by simp [List.getD, List.getElem?_eq_getElem (show k < zs.length by omega)]
    rw [hb] at hcell
    have hlt := World.block_lt_of_cell? w _ hcell
    rw [add_block] at hlt
    simp only [Option.some.injEq] at hu
    subst hu
    exact ⟨hlt, hcell⟩
end


theorem tcells_append (ts gs : List Tl) (vs us : List Value) (h : vs.length = ts.length) : tcells (ts ++ gs) (vs ++ us) = tcells ts vs ++ tcells gs us := by
  unfold tcells
  rw [List.zip_append h.symm, List.flatMap_append]
theorem tcells_get : ∀ (ts : List Tl) (vs : List Value) (x : Value), x ∈ tcells ts vs → x ∈ vs ∨ ∃ z, x = .int .i64 z
  | [], vs, x, h => by simp [tcells] at h
  | _ :: _, [], x, h => by simp [tcells] at h
  | t :: ts, u :: vs, x, h => by
    rw [tcells_cons] at h
    rcases List.mem_append.1 h with h | h
    · simp at h
      rcases h with rfl | rfl | rfl | rfl
      · exact .inr ⟨_, rfl⟩
      · exact .inr ⟨_, rfl⟩
      · exact .inr ⟨_, rfl⟩
      · exact .inl List.mem_cons_self
    · exact (tcells_get ts vs x h).imp (List.mem_cons_of_mem _) id
/-- 'append(ts, gs...)', both own rows with own data. -/
theorem run_appPP {w : World} (ty : TypeId) {base base2 bb : Nat} {vs us : List Value} {v : Value} {ts gs : List Tl} {A : Option Addr} {c : Nat} (hown : OwnP w base bb vs v ts) (hg2 : OwnP w base2 bb us (.slice A gs.length c) gs)
    (hlen : ts.length + gs.length ≤ 1000000000000) (hbase : base ≤ w.heap.size) :
    ∃ v' w', (Builtin.append_ #[33, 33] ty #[v, .slice A gs.length c]).run Try.prog w = .ok v' w' ∧ OwnP w' base bb (vs ++ us) v' (ts ++ gs) ∧ w.grownBy w' v.ownBlock ∧ (v'.ownBlock = v.ownBlock ∨ v'.ownBlock = some w.heap.size) := by
  obtain ⟨i0, hi, hz0, hz1, hz2⟩ := info_parts telT.2
  cases A with
  | none =>
    have h0 : c = 0 ∧ gs = [] := by
      rcases hg2.row.2 with ⟨hv, h⟩ | ⟨g, _, _, hv, _⟩
      · injection hv with _ h1 h2
        exact ⟨h2, List.eq_nil_of_length_eq_zero h1⟩
      · injection hv with h1; cases h1
    obtain ⟨rfl, rfl⟩ := h0
    have hu : us = [] := List.eq_nil_of_length_eq_zero hg2.len
    subst hu
    refine ⟨v, w, run_append_owned_none (P := Try.prog) (w := w) base _ ty _ i0 4 telT.1 hi v ts.length (tcells ts vs) hown.row, by rw [List.append_nil, List.append_nil]; exact hown, World.grownBy.refl w _, .inl rfl⟩
  | some ad =>
    have hone : ∀ x ∈ tcells gs us, x.oneCell' = true := by
      intro x hx
      rcases tcells_get _ _ _ hx with h | ⟨z, rfl⟩
      · obtain ⟨k, hk⟩ := List.mem_iff_getElem?.1 h
        have hlt := (List.getElem?_eq_some_iff.1 hk).1
        exact one_own (hg2.dat k _ x (List.getElem?_eq_getElem (by have := hg2.len; omega)) hk)
      · rfl
    have hcell : ∀ (j : Nat) (x : Value), (tcells gs us)[j]? = some x → w.cell? (ad.add j) = some x := by
      intro j x hx
      rcases hg2.row.2 with ⟨hv, h⟩ | ⟨g, cap, cur, hv, _⟩
      · simp at hv
      · simp only [Value.slice.injEq, Option.some.injEq] at hv
        obtain ⟨h1, _, _⟩ := hv
        subst h1
        exact hg2.row.cells (g := g) rfl j x hx
    obtain ⟨v', w', hrun, ho, hg, hn, hp⟩ := run_append_own_at (P := Try.prog) w base _ ty _ i0 (.agg #[.int .i64 0, .int .i64 0, .int .i64 0, .slice none 0 0]) 4 48 telT.1 hi hz0 hz1 hz2 rfl (by decide) v ts.length (tcells ts vs) hown.row
      ad gs.length c (tcells gs us) (tcells_length gs us hg2.len) hcell hone (by unfold maxLen; omega) (by omega) hbase
    refine ⟨v', w', hrun, ⟨by simp [hown.len, hg2.len], ?_, fun k t u ht hu => ?_⟩, hg, hp⟩
    · rw [tcells_append ts gs vs us hown.len, List.length_append]
      exact ho
    · by_cases hk : k < ts.length
      · rw [List.getElem?_append_left hk] at ht
        rw [List.getElem?_append_left (by have := hown.len; omega)] at hu
        have h2 := hown.dat k t u ht hu
        exact World.ownsRow.kept h2 hg (own_ne hown.row h2 (by decide))
      · rw [List.getElem?_append_right (by omega)] at ht
        rw [List.getElem?_append_right (by have := hown.len; omega), hown.len] at hu
        have h2 := hg2.dat _ t u ht hu
        exact World.ownsRow.kept h2 hg (own_ne hown.row h2 (by decide))
theorem wp_appPP {w : World} {o : Oper} {d : Option Tmp} {a : Act} {K : Act → World → Prop} {Q : Exit → Act → World → Prop} (hd : o.dst = d) (s x : Operand)
    (ho : o.op = .call { callee := .builtin .append, args := #[s, x], argTypes := #[33, 33] })
    {base base2 bb : Nat} {vs us : List Value} {v : Value} {ts gs : List Tl} {A : Option Addr} {c : Nat} (hown : OwnP w base bb vs v ts) (hg2 : OwnP w base2 bb us (.slice A gs.length c) gs)
    (hs : a.eval s = v) (hx : a.eval x = .slice A gs.length c) (hlen : ts.length + gs.length ≤ 1000000000000) (hbase : base ≤ w.heap.size)
    (h : ∀ v' w', OwnP w' base bb (vs ++ us) v' (ts ++ gs) → w.grownBy w' v.ownBlock → (v'.ownBlock = v.ownBlock ∨ v'.ownBlock = some w.heap.size) → K (a.put d v') w') : o.wp Try.prog a w K Q := by
  subst hd
  obtain ⟨v', w', hrun, h2, h3, h5⟩ := run_appPP (c := c) o.type hown hg2 hlen hbase
  unfold Oper.wp execOp
  simp only [ho, resolve, invoke, builtin, Sem.run_bind, Sem.run_pure, Result.andThen_ok, List.map_toArray, List.map_cons, List.map_nil, hs, hx]
  rw [hrun]
  exact h v' w' h2 h3 h5
theorem feedT_len (s : Ts) (d : List UInt8) : (feedT s d).length ≤ d.length := by
  unfold feedT
  split
  · simp
  · exact Nat.le_trans (putF_length _) (evs_length _ _)
theorem feedT_sum {s : Ts} (h : OkT s) (d : List UInt8) : sumD (feedT s d) ≤ 3000 * d.length := by
  unfold feedT
  split
  · simp [sumD]
  · rw [sumD_put]; exact sumD_evs h d
/-- What is gathered of pieces is what comes of all, as long as no error is met. -/
theorem gath {l : List UInt8} {q K : Nat} {G : List Tl} (h : (endT ts0 (l.take q)).err = 0 → putF G = putF (evs ts0 (l.take q))) (he : (endT ts0 (l.take (q + K))).err = 0) :
    putF (G ++ feedT (endT ts0 (l.take q)) ((l.drop q).take K)) = putF (evs ts0 (l.take (q + K))) := by
  have hs : l.take (q + K) = l.take q ++ (l.drop q).take K := List.take_add
  rw [hs] at he ⊢
  have h0 := err_pre he
  rw [endT_app] at he
  have hf : feedT (endT ts0 (l.take q)) ((l.drop q).take K) = putF (evs (endT ts0 (l.take q)) ((l.drop q).take K)) := by
    unfold feedT
    rw [run_end, if_neg (by rw [he]; simp)]
  rw [hf, putF_both, ← putF_app, h h0, putF_app, evs_app]
theorem below_w {w w4 wr : World} {r2 : Nat} (hm : Mod (fun i => i = r2) w4 wr) (hg : w.grownBy w4 none) (hr : w.heap.size ≤ r2) : Below w.heap.size w wr :=
  ⟨hm.os.trans hg.os, hm.tape.trans hg.tape, hm.output.trans hg.output, Nat.le_trans hg.size hm.size, fun k hk => (hm.block k (Nat.lt_of_lt_of_le hk hg.size) (fun e => by omega)).trans (hg.block k hk (fun e => by cases e))⟩
def lenV : Value → Nat
  | .slice _ n _ => n
  | _ => 0
/-- What stands at the head of each round. -/
def PsRel (w w4 : World) (r2 : Nat) (l : List UInt8) (m1 : Nat) (s9 s10 s11 s12 : Value) (wr : World) : Prop :=
  ∃ (q k : Nat) (pv : Value) (us : List Value) (G : List Tl) (A : Option Addr) (c : Nat), s12 = .int .i64 k ∧ k ≤ m1 + 1 ∧ q ≤ l.length ∧ (m1 < k → q = l.length) ∧ s11 = .slice A (l.length - q) c ∧ RB wr w.heap.size A (l.drop q) c ∧ s10 = .int .i64 (endT ts0 (l.take q)).err ∧
    OwnP wr w4.heap.size w.heap.size us s9 G ∧ ((endT ts0 (l.take q)).err = 0 → putF G = putF (evs ts0 (l.take q))) ∧ G.length ≤ q ∧ sumD G ≤ 3000 * q ∧ RD wr w.heap.size r2 pv (endT ts0 (l.take q)) ∧
    Mod (fun i => i = r2) w4 wr ∧ (∀ g, pv.ownBlock = some g → w4.heap.size ≤ g) ∧ (∀ u ∈ us, ∀ g, u.ownBlock = some g → w4.heap.size ≤ g ∧ pv.ownBlock ≠ some g)

set_option maxRecDepth 20000 in
set_option maxHeartbeats 16000000 in
theorem walk_TeloptPieces (w : World) (A0 : Option Addr) (l : List UInt8) (cap0 : Nat) (h0 : RB w w.heap.size A0 l cap0) (A1 : Option Addr) (cuts : List Int) (cap1 : Nat) (h1 : RI w w.heap.size A1 cuts cap1) :
    Calls Try.prog 5 #[.slice A0 l.length cap0, .slice A1 cuts.length cap1] w fun e w' => e = .returned (.bool true) ∧ Below w.heap.size w w' := by
  have H0 := Lib.hid h0
  have H1 := Lib.hid h1
  obtain ⟨m0, hm0⟩ : ∃ m, l.length = m := ⟨_, rfl⟩
  obtain ⟨m1, hm1⟩ : ∃ m, cuts.length = m := ⟨_, rfl⟩
  have M0 := Lib.hid hm0
  have M1 := Lib.hid hm1
  have k0 : m0 ≤ 9223372036854775807 := by have := h0.1; have := h0.2.1; unfold maxLen at this; omega
  have k1 : m1 ≤ 9223372036854775807 := by have := h1.1; have := h1.2.1; unfold maxLen at this; omega
  rw [hm0, hm1]
  clear h0 h1 hm0 hm1
  by_cases g0 : 4000 < m0
  · have gi : (4000 : Int) < (m0 : Int) := by omega
    go_enter Try.func5, Try.ntmps5
    go_wp2_with (go_at_call 8; refine (speaks_any _).mono ?_; rintro e w1 ⟨rfl, g1⟩; have G1 := Lib.hid g1; clear g1)
    go_ret
    exact ⟨rfl, below_of_none G1.out⟩
  have g0i : ¬ (4000 : Int) < (m0 : Int) := by omega
  by_cases g1 : 100 < m1
  · have gi : (100 : Int) < (m1 : Int) := by omega
    go_enter Try.func5, Try.ntmps5
    go_wp2_with (go_at_call 8; refine (speaks_any _).mono ?_; rintro e w1 ⟨rfl, g1⟩; have G1 := Lib.hid g1; clear g1)
    go_ret
    exact ⟨rfl, below_of_none G1.out⟩
  have g1i : ¬ (100 : Int) < (m1 : Int) := by omega
  have HM0 := Lib.hid (show m0 ≤ 4000 ∧ m1 ≤ 100 by omega)
  clear g0 g1
  have TK0 := Lib.hid True.intro
  go_enter Try.func5, Try.ntmps5
  go_wp2_with (first
    | (go_at_call 8; refine (speaks_any _).mono ?_; rintro e w1 ⟨rfl, g1⟩; have G1 := Lib.hid g1; clear g1)
    | (go_at_call 11; have hx := TK0; clear hx TK0; refine (newReader_any _).mono ?_; rintro e w2 ⟨rfl, r2, g2⟩; have R2 := Lib.hid (r2.base_ G1.out.size); have G2 := Lib.hid (grown_trans' G1.out g2); clear r2 g2; have TK1 := Lib.hid True.intro)
    | (go_at_call 11; have hx := TK1; clear hx TK1; refine (newReader_any _).mono ?_; rintro e w3 ⟨rfl, r3, g3⟩; have R3 := Lib.hid (r3.base_ G2.out.size); have G3 := Lib.hid (grown_trans' G2.out g3); have R23 := Lib.hid (R2.out.made g3); clear r3 g3; have TK2 := Lib.hid True.intro)
    | (go_at_call 12
       have hx := TK2
       clear hx TK2
       refine (feed_any R23.out ok_ts0 G3.out.size A0 l m0 cap0 M0.out ((H0.out.below (below_of_none G3.out)).more G3.out.size) (fun a ha hl => ⟨fun e => by have h1 := H0.out.blk a ha hl; have h2 := G1.out.size; omega, fun e => by simp [Value.ownBlock] at e⟩) (by have := HM0.out; omega)).mono ?_
       rintro e w4 ⟨pv4, vf4, vs4, rfl, -, o4, m4, -, -⟩
       have R4 := Lib.hid (R3.out.mod m4 (fun e => by rcases e with e | e; have h1 := R2.out.lt.2; omega; simp [Value.ownBlock] at e) (fun g hg e => by simp [Value.ownBlock] at hg))
       have G4 := Lib.hid (show w.grownBy w4 none from ⟨m4.os.trans G3.out.os, m4.tape.trans G3.out.tape, m4.output.trans G3.out.output, Nat.le_trans G3.out.size m4.size, fun z hz hn => (m4.block z (Nat.lt_of_lt_of_le hz G3.out.size) (fun e => by rcases e with e | e; have h2 := G1.out.size; omega; simp [Value.ownBlock] at e)).trans (G3.out.block z hz hn)⟩)
       have O4 := Lib.hid (OwnP.base_ o4 G3.out.size (Nat.le_refl _))
       have W4 := Lib.hid (show ∀ g, vf4.ownBlock = some g → w3.heap.size ≤ g from fun g hg => (o4.lt g hg).1)
       have W5 := Lib.hid (show ∀ u ∈ vs4, ∀ g, u.ownBlock = some g → g < w4.heap.size ∧ g ≠ w2.heap.size from fun u hu g hg => ⟨(o4.dlt u hu g hg).2, fun e => by
         obtain ⟨i, hi⟩ := List.mem_iff_getElem?.1 hu
         have hlt := (List.getElem?_eq_some_iff.1 hi).1
         subst e
         exact (o4.dat i _ u (List.getElem?_eq_getElem (by have := o4.len; omega)) hi).ne_cells R4.out.2.1 (by decide) hg⟩)
       obtain ⟨A4, c4, rfl, -, -⟩ := o4.shape
       obtain ⟨fn, hfn⟩ : ∃ x, (feedT ts0 l).length = x := ⟨_, rfl⟩
       have HFN := Lib.hid hfn
       rw [hfn]
       clear o4 m4 hfn))
  obtain ⟨en, hen⟩ : ∃ x, (endT ts0 l).err = x := ⟨_, rfl⟩
  have HEN := Lib.hid hen
  rw [hen]
  clear hen
  have HRW := Lib.hid R3.out.lt.2
  have S4 := Lib.hid (show PsRel w w4 w2.heap.size l m1 (.slice (some ⟨w4.heap.size, 0, none⟩) 0 0) (.int .i64 0) (.slice A0 m0 cap0) (.int .i64 0) (w4.alloc (.cells #[] 24)) from
    ⟨0, 0, .slice none 0 0, [], [], A0, cap0, rfl, Nat.zero_le _, Nat.zero_le _, fun h => by omega, by rw [M0.out]; rfl, (H0.out.below (below_of_none G4.out)).alloc G4.out.size _, rfl, OwnP.new0 _ _ _ (Nat.le_refl _), fun _ => rfl, by simp, by simp [sumD], R4.out.made (grown_alloc _ _ none), Mod.made (grown_alloc _ _ none), fun g hg => by simp [Value.ownBlock] at hg, fun u hu => by cases hu⟩)
  clear R2 R23 R3 R4 G1 G2
  obtain ⟨r2, hr2⟩ : ∃ x, w2.heap.size = x := ⟨_, rfl⟩
  rw [hr2] at S4 W5 HRW
  rw [hr2]
  clear hr2
  go_loopw [9, 10, 11, 12] (fun s9 s10 s11 s12 wr => PsRel w w4 r2 l m1 s9 s10 s11 s12 wr) (fun _ _ s11 s12 _ => (m1 + 1 - (intOf s12).toNat) + lenV s11)
  case atStart => exact S4.out
  case round =>
    obtain ⟨q, k, pv, us, G, A, c, rfl, hk, hq, hkq, rfl, hrb, rfl, hop, hput, hgl, hgs, hrd, hmod, hpv, hus⟩ := hrel
    rw [M0.out]
    have HQ := Lib.hid hq
    have HKQ := Lib.hid hkq
    have RB0 := Lib.hid hrb
    have OG := Lib.hid hop
    have HPUT := Lib.hid hput
    have HGL := Lib.hid hgl
    have HGS := Lib.hid hgs
    have RD0 := Lib.hid hrd
    have MD := Lib.hid hmod
    have HPV := Lib.hid hpv
    have HUS := Lib.hid hus
    obtain ⟨S, hS⟩ : ∃ S, endT ts0 (l.take q) = S := ⟨_, rfl⟩
    have HS := Lib.hid hS
    have HOK := Lib.hid (show OkT S by rw [← hS]; exact ok_end _)
    rw [hS]
    rw [hS] at RD0
    obtain ⟨AG, cg, hvg, -, -⟩ := hop.shape
    subst hvg
    obtain ⟨gn, hgn⟩ : ∃ x, G.length = x := ⟨_, rfl⟩
    have HGN := Lib.hid hgn
    rw [hgn]
    rw [hgn] at OG
    obtain ⟨dn, hdn⟩ : ∃ x, m0 - q = x := ⟨_, rfl⟩
    have HDN := Lib.hid hdn
    have HM0L := M0.out
    rw [hdn]
    clear hrb hop hput hgl hgs hrd hmod hpv hus hS hgn hdn
    by_cases hd0 : 0 < dn
    · have hd0i : (0 : Int) < (dn : Int) := by omega
      have hkm : k ≤ m1 := by
        apply Classical.byContradiction
        intro e
        have := HKQ.out (by omega)
        have := HDN.out
        omega
      have HKM := Lib.hid hkm
      have DLL := Lib.hid (show (l.drop q).length = dn by rw [List.length_drop, M0.out, HDN.out])
      obtain ⟨b, off, rfl, hbb, -⟩ := RB0.out.open_ (by rw [DLL.out]; exact hd0)
      have hdcap : dn ≤ c := by rw [← DLL.out]; exact RB0.out.1
      have hccap : c ≤ 9223372036854775807 := RB0.out.2.1
      have hdn2 : dn ≤ 4000 := by have := HM0.out; have := HDN.out; omega
      have HBB := Lib.hid hbb
      clear hbb hq hkq
      by_cases hkm1 : k < m1
      · have hni : (k : Int) < (m1 : Int) := by omega
        obtain ⟨b1, off1, rfl, hb1, hc1⟩ := H1.out.open_ (by have := M1.out; omega)
        obtain ⟨cu, hcu⟩ : ∃ x, x = cuts[k]'(by have := M1.out; omega) := ⟨_, rfl⟩
        have q1 : wr.cell? ⟨b1, off1 + k, none⟩ = some (.int .i64 cu) := by
          rw [hcu]
          exact (World.cell?_of_block (MD.out.block b1 (Nat.lt_of_lt_of_le hb1 G4.out.size) (fun e => by have := RD0.out.1; omega))).trans ((World.cell?_of_block (G4.out.block b1 hb1 (fun e => by cases e))).trans (hc1 k _))
        obtain ⟨z, hz, hb16⟩ := and_low cu 16 (by decide)
        have hand : bits .and .i64 cu 65535 = (z : Int) := hb16
        obtain ⟨K, hK⟩ : ∃ x, z % (dn + 1) = x := ⟨_, rfl⟩
        have HKD := Lib.hid (show K ≤ dn by rw [← hK]; have := Nat.mod_lt z (show 0 < dn + 1 by omega); omega)
        have hrem : Int.tmod (z : Int) ((dn : Int) + 1) = (K : Int) := by rw [← hK]; exact_mod_cast (Int.ofNat_tmod z (dn + 1)).symm
        have hw1 : IntKind.i64.wrap ((dn : Int) + 1) = (dn : Int) + 1 := by simp [IntKind.wrap, IntKind.bits, IntKind.signed]; omega
        have hwk : IntKind.i64.wrap (K : Int) = (K : Int) := by have := HKD.out; simp [IntKind.wrap, IntKind.bits, IntKind.signed]; omega
        have hwn : IntKind.i64.wrap ((k : Int) + 1) = (k : Int) + 1 := by simp [IntKind.wrap, IntKind.bits, IntKind.signed]; omega
        have HKN := Lib.hid (show m1 < k + 1 → q + K = l.length from fun h => by omega)
        have HME := Lib.hid (show True from trivial)
        have hkc : K ≤ c := by have := HKD.out; omega
        clear hcu hb16 hK hc1 hb1 hz
        have DTK := Lib.hid (show ((l.drop q).take K).length = K by rw [List.length_take, DLL.out]; have := HKD.out; omega)
        have hcut := RB0.out.cut (k := K) (by rw [DLL.out]; exact HKD.out)
        obtain ⟨qa, hqa⟩ : ∃ qa, (if c = K then some (⟨b, off, none⟩ : Addr) else some ⟨b, off + K, none⟩) = some qa := by split <;> exact ⟨_, rfl⟩
        have DC := Lib.hid (show RB wr w.heap.size (some qa) (l.drop (q + K)) (c - K) by
          rw [show (if c = K then some (⟨b, off, none⟩ : Addr) else (some (⟨b, off, none⟩ : Addr)).map (·.add K)) = some qa by rw [← hqa, Option.map_some, Addr.add_lit], List.drop_drop] at hcut
          exact hcut)
        obtain ⟨FT, hFT⟩ : ∃ x, feedT S ((l.drop q).take K) = x := ⟨_, rfl⟩
        obtain ⟨ES, hES⟩ : ∃ x, endT S ((l.drop q).take K) = x := ⟨_, rfl⟩
        have HFT := Lib.hid hFT
        have HES := Lib.hid hES
        have HE2 := Lib.hid (show endT ts0 (l.take (q + K)) = ES by rw [← hES, ← HS.out, List.take_add, endT_app])
        have HFL := Lib.hid (show FT.length ≤ K ∧ sumD FT ≤ 3000 * K by
          have h1 := feedT_len S ((l.drop q).take K)
          have h2 := feedT_sum HOK.out ((l.drop q).take K)
          rw [hFT, DTK.out] at h1 h2
          exact ⟨h1, h2⟩)
        have HGA := Lib.hid (show (endT ts0 (l.take (q + K))).err = 0 → putF (G ++ FT) = putF (evs ts0 (l.take (q + K))) from fun he => by
          have := gath HPUT.out he
          rw [HS.out, hFT] at this
          exact this)
        have hkci : (K : Int) ≤ (c : Int) := by have := HKD.out; omega
        have hkdi : (K : Int) ≤ (dn : Int) := by have := HKD.out; omega
        obtain ⟨fl, hfl⟩ : ∃ x, FT.length = x := ⟨_, rfl⟩
        have HFLN := Lib.hid hfl
        clear hcut hFT hES hfl
        go_wp2_with (go_at_call 12
                     refine (feed_any RD0.out HOK.out (Nat.le_trans G4.out.size MD.out.size) (some ⟨b, off, none⟩) ((l.drop q).take K) K c DTK.out ((RB0.out.head K).more (Nat.le_trans G4.out.size MD.out.size)) (fun a ha hl => by
                       injection ha with ha
                       subst ha
                       exact ⟨fun e => by have e : b = r2 := e; have h1 := HBB.out; have h2 := RD0.out.1; omega, fun e => by have h1 := HBB.out; have h2 : w4.heap.size ≤ b := HPV.out _ e; have h3 := G4.out.size; omega⟩) (by have := HKD.out; omega)).mono ?_
                     rintro e w6 ⟨pv6, vf6, vs6, rfl, r6, o6, m6, n6, u6⟩
                     rw [HES.out] at r6 ⊢
                     rw [HFT.out] at o6
                     obtain ⟨A6, c6, hvf, -, -⟩ := o6.shape
                     rw [HFLN.out] at hvf
                     subst hvf
                     have O6 := Lib.hid o6
                     have R6 := Lib.hid r6
                     have M6 := Lib.hid m6
                     have N6 := Lib.hid n6
                     have U6 := Lib.hid u6
                     clear o6 r6 m6 n6 u6)
        obtain ⟨wd6, hwd6⟩ : ∃ x, w6.drew = x := ⟨_, rfl⟩
        have GD6 := Lib.hid (show w6.grownBy wd6 none by rw [← hwd6]; exact grown_drew (World.grownBy.refl _ none))
        have OGd := Lib.hid ((OG.out.later RD0.out (fun u hu g hg => (HUS.out u hu g hg).2) M6.out).none_ GD6.out)
        have O6d := Lib.hid (show OwnP wd6 wr.heap.size w.heap.size vs6 (.slice A6 FT.length c6) FT by rw [HFLN.out]; exact O6.out.none_ GD6.out)
        have R6d := Lib.hid (R6.out.made GD6.out)
        have MDd := Lib.hid (show Mod (fun i => i = r2) w4 wd6 from (MD.out.next M6.out (fun i hi e => by
          rcases e with e | e
          · exact e
          · have := HPV.out i e; omega)).next (Mod.made (S := fun _ => False) GD6.out) (fun _ _ e => e.elim))
        have DCd := Lib.hid (show RB wd6 w.heap.size (some qa) (l.drop (q + K)) (c - K) from (DC.out.mod M6.out (Nat.le_trans G4.out.size MD.out.size) (fun i hi e => by
          rcases e with e | e
          · have := RD0.out.1; omega
          · have := HPV.out i e; have := G4.out.size; omega)).below (below_of_none GD6.out |> fun h => ⟨h.os, h.tape, h.output, h.size, fun k hk => h.block k (Nat.lt_of_lt_of_le hk (Nat.le_trans G4.out.size (Nat.le_trans MD.out.size M6.out.size)))⟩))
        have HPV6 := Lib.hid (show ∀ g, pv6.ownBlock = some g → w4.heap.size ≤ g from fun g hg => by
          rcases N6.out g hg with h | h
          · exact HPV.out g h
          · exact Nat.le_trans MD.out.size h)
        have HUS6 := Lib.hid (show ∀ u ∈ us ++ vs6, ∀ g, u.ownBlock = some g → w4.heap.size ≤ g ∧ pv6.ownBlock ≠ some g from fun u hu g hg => by
          rcases List.mem_append.1 hu with hu | hu
          · refine ⟨(HUS.out u hu g hg).1, fun e => ?_⟩
            rcases N6.out g e with h | h
            · exact (HUS.out u hu g hg).2 h
            · have := (OG.out.dlt u hu g hg).2; omega
          · refine ⟨?_, (U6.out u hu g hg).2⟩
            rcases (U6.out u hu g hg).1 with h | h
            · exact HPV.out g h
            · exact Nat.le_trans MD.out.size h)
        clear OG O6 R6 M6 N6 U6 GD6 DC MD
        refine helds_begin (fun _ => True) (by kernel_rfl) trivial (fun _ => ?_)
        try rw [hwd6]
        refine helds_take (i := 0) (d := some 70) (v := ?vta_1) trivial rfl rfl (by kernel_rfl) (fun _ _ _ h => h) ?yta_1 ?_; case yta_1 => (refine Or.inl ⟨rfl, fun wx hS => ?_⟩; go_simp; try with_reducible rfl)
        try simp only [Act.put, List.setIfInBounds_toArray, List.set_cons_zero, List.set_cons_succ]
        refine helds_take (i := 1) (d := some 71) (v := ?vta_2) trivial rfl rfl (by kernel_rfl) (fun _ _ _ h => h) ?yta_2 ?_; case yta_2 => (refine Or.inl ⟨rfl, fun wx hS => ?_⟩; go_simp; try with_reducible rfl)
        try simp only [Act.put, List.setIfInBounds_toArray, List.set_cons_zero, List.set_cons_succ]
        refine helds_take (i := 3) (d := some 73) (v := ?vta_3) trivial rfl rfl (by kernel_rfl) (fun _ _ _ h => h) ?yta_3 ?_; case yta_3 => (refine Or.inl ⟨rfl, fun wx hS => ?_⟩; go_simp; try with_reducible rfl)
        try simp only [Act.put, List.setIfInBounds_toArray, List.set_cons_zero, List.set_cons_succ]
        refine helds_take (i := 4) (d := some 74) (v := ?vta_4) trivial rfl rfl (by kernel_rfl) (fun _ _ _ h => h) ?yta_4 ?_; case yta_4 => (refine Or.inl ⟨rfl, fun wx hS => ?_⟩; go_simp; try with_reducible rfl)
        try simp only [Act.put, List.setIfInBounds_toArray, List.set_cons_zero, List.set_cons_succ]
        refine helds_take (i := 5) (d := some 75) (v := ?vta_5) trivial rfl rfl (by kernel_rfl) (fun _ _ _ h => h) ?yta_5 ?_; case yta_5 => (refine Or.inl ⟨rfl, fun wx hS => ?_⟩; go_simp; try with_reducible rfl)
        try simp only [Act.put, List.setIfInBounds_toArray, List.set_cons_zero, List.set_cons_succ]
        refine helds_take (i := 6) (d := some 76) (v := ?vta_6) trivial rfl rfl (by kernel_rfl) (fun _ _ _ h => h) ?yta_6 ?_; case yta_6 => (refine Or.inl ⟨rfl, fun wx hS => ?_⟩; go_simp; try with_reducible rfl)
        try simp only [Act.put, List.setIfInBounds_toArray, List.set_cons_zero, List.set_cons_succ]
        refine helds_one (i := 2) rfl (by kernel_rfl) rfl (fun K hK => ?_)
        refine wp_appPP (d := some 72) rfl (.tmp 70) (.tmp 71) rfl OGd.out O6d.out rfl (by rw [HFLN.out]; rfl) (by have := HGL.out; have := HFL.out; have := HKD.out; have := HM0.out; have := HQ.out; have := M0.out; omega) MDd.out.size ?_
        intro v8 w8 o8 g8 a8
        have O8 := Lib.hid o8
        have G8 := Lib.hid g8
        clear o8 g8 a8
        refine hK.out _ _ trivial (fun _ => ?_)
        clear hK K
        try simp only [Act.put, List.setIfInBounds_toArray, List.set_cons_zero, List.set_cons_succ]
        refine helds_take (i := 7) (d := some 9) (v := ?vta_7) trivial rfl rfl (by kernel_rfl) (fun _ _ _ h => h) ?yta_7 ?_; case yta_7 => (refine Or.inl ⟨rfl, fun wx hS => ?_⟩; go_simp; try with_reducible rfl)
        try simp only [Act.put, List.setIfInBounds_toArray, List.set_cons_zero, List.set_cons_succ]
        refine helds_take (i := 8) (d := some 10) (v := ?vta_8) trivial rfl rfl (by kernel_rfl) (fun _ _ _ h => h) ?yta_8 ?_; case yta_8 => (refine Or.inl ⟨rfl, fun wx hS => ?_⟩; go_simp; try with_reducible rfl)
        try simp only [Act.put, List.setIfInBounds_toArray, List.set_cons_zero, List.set_cons_succ]
        refine helds_take (i := 9) (d := some 11) (v := ?vta_9) trivial rfl rfl (by kernel_rfl) (fun _ _ _ h => h) ?yta_9 ?_; case yta_9 => (refine Or.inl ⟨rfl, fun wx hS => ?_⟩; go_simp; try with_reducible rfl)
        try simp only [Act.put, List.setIfInBounds_toArray, List.set_cons_zero, List.set_cons_succ]
        refine held_end (by kernel_rfl) ?_ _
        go_wp2
        go_roundw
        case rel =>
          have ml := OGd.out.lt
          refine ⟨q + K, k + 1, pv6, us ++ vs6, G ++ FT, some qa, c - K, by first | rfl | go_num, by have := HKM.out; omega, by have := HKD.out; have := HDN.out; have := M0.out; omega, HKN.out, by rw [show l.length - (q + K) = dn - K by have := HDN.out; have := M0.out; omega], DCd.out.mod (Mod.of_grown G8.out) (Nat.le_trans G4.out.size MDd.out.size) (fun i hi e => by have := (ml i e.symm).1; have := G4.out.size; omega), by rw [HE2.out], O8.out, HGA.out, by rw [List.length_append]; have := HGL.out; have := HFL.out; omega, by rw [sumD_app]; have := HGS.out; have := HFL.out; omega, ?_, MDd.out.grown G8.out (fun z hz hlt => by have := (ml z hz).1; omega), HPV6.out, HUS6.out⟩
          rw [HE2.out]
          exact R6d.out.mod (Mod.of_grown G8.out) (fun e => OGd.out.ne_cells R6d.out.2.1 (by decide) e.symm) (fun g hg e => OGd.out.ne_own R6d.out.2.2 hg e.symm)
        case measure => have := HKD.out; have := HKM.out; have := HME.out; simp [intOf, lenV]; omega
      · obtain rfl : k = m1 := by omega
        obtain ⟨K, hK⟩ : ∃ x, dn = x := ⟨_, rfl⟩
        have HKD := Lib.hid (show K ≤ dn by omega)
        have HME := Lib.hid hK
        have hwn : IntKind.i64.wrap ((k : Int) + 1) = (k : Int) + 1 := by simp [IntKind.wrap, IntKind.bits, IntKind.signed]; omega
        have hni : ¬ (k : Int) < (k : Int) := by omega
        have HKN := Lib.hid (show k < k + 1 → q + K = l.length from fun h => by have := HDN.out; have := M0.out; have := HQ.out; omega)
        have hKi : (dn : Int) = (K : Int) := by omega
        have hkc : K ≤ c := by omega
        clear hK
        have DTK := Lib.hid (show ((l.drop q).take K).length = K by rw [List.length_take, DLL.out]; have := HKD.out; omega)
        have hcut := RB0.out.cut (k := K) (by rw [DLL.out]; exact HKD.out)
        obtain ⟨qa, hqa⟩ : ∃ qa, (if c = K then some (⟨b, off, none⟩ : Addr) else some ⟨b, off + K, none⟩) = some qa := by split <;> exact ⟨_, rfl⟩
        have DC := Lib.hid (show RB wr w.heap.size (some qa) (l.drop (q + K)) (c - K) by
          rw [show (if c = K then some (⟨b, off, none⟩ : Addr) else (some (⟨b, off, none⟩ : Addr)).map (·.add K)) = some qa by rw [← hqa, Option.map_some, Addr.add_lit], List.drop_drop] at hcut
          exact hcut)
        obtain ⟨FT, hFT⟩ : ∃ x, feedT S ((l.drop q).take K) = x := ⟨_, rfl⟩
        obtain ⟨ES, hES⟩ : ∃ x, endT S ((l.drop q).take K) = x := ⟨_, rfl⟩
        have HFT := Lib.hid hFT
        have HES := Lib.hid hES
        have HE2 := Lib.hid (show endT ts0 (l.take (q + K)) = ES by rw [← hES, ← HS.out, List.take_add, endT_app])
        have HFL := Lib.hid (show FT.length ≤ K ∧ sumD FT ≤ 3000 * K by
          have h1 := feedT_len S ((l.drop q).take K)
          have h2 := feedT_sum HOK.out ((l.drop q).take K)
          rw [hFT, DTK.out] at h1 h2
          exact ⟨h1, h2⟩)
        have HGA := Lib.hid (show (endT ts0 (l.take (q + K))).err = 0 → putF (G ++ FT) = putF (evs ts0 (l.take (q + K))) from fun he => by
          have := gath HPUT.out he
          rw [HS.out, hFT] at this
          exact this)
        have hkci : (K : Int) ≤ (c : Int) := by have := HKD.out; omega
        have hkdi : (K : Int) ≤ (dn : Int) := by have := HKD.out; omega
        obtain ⟨fl, hfl⟩ : ∃ x, FT.length = x := ⟨_, rfl⟩
        have HFLN := Lib.hid hfl
        clear hcut hFT hES hfl
        go_wp2_with (go_at_call 12
                     refine (feed_any RD0.out HOK.out (Nat.le_trans G4.out.size MD.out.size) (some ⟨b, off, none⟩) ((l.drop q).take K) K c DTK.out ((RB0.out.head K).more (Nat.le_trans G4.out.size MD.out.size)) (fun a ha hl => by
                       injection ha with ha
                       subst ha
                       exact ⟨fun e => by have e : b = r2 := e; have h1 := HBB.out; have h2 := RD0.out.1; omega, fun e => by have h1 := HBB.out; have h2 : w4.heap.size ≤ b := HPV.out _ e; have h3 := G4.out.size; omega⟩) (by have := HKD.out; omega)).mono ?_
                     rintro e w6 ⟨pv6, vf6, vs6, rfl, r6, o6, m6, n6, u6⟩
                     rw [HES.out] at r6 ⊢
                     rw [HFT.out] at o6
                     obtain ⟨A6, c6, hvf, -, -⟩ := o6.shape
                     rw [HFLN.out] at hvf
                     subst hvf
                     have O6 := Lib.hid o6
                     have R6 := Lib.hid r6
                     have M6 := Lib.hid m6
                     have N6 := Lib.hid n6
                     have U6 := Lib.hid u6
                     clear o6 r6 m6 n6 u6)
        obtain ⟨wd6, hwd6⟩ : ∃ x, w6.drew = x := ⟨_, rfl⟩
        have GD6 := Lib.hid (show w6.grownBy wd6 none by rw [← hwd6]; exact grown_drew (World.grownBy.refl _ none))
        have OGd := Lib.hid ((OG.out.later RD0.out (fun u hu g hg => (HUS.out u hu g hg).2) M6.out).none_ GD6.out)
        have O6d := Lib.hid (show OwnP wd6 wr.heap.size w.heap.size vs6 (.slice A6 FT.length c6) FT by rw [HFLN.out]; exact O6.out.none_ GD6.out)
        have R6d := Lib.hid (R6.out.made GD6.out)
        have MDd := Lib.hid (show Mod (fun i => i = r2) w4 wd6 from (MD.out.next M6.out (fun i hi e => by
          rcases e with e | e
          · exact e
          · have := HPV.out i e; omega)).next (Mod.made (S := fun _ => False) GD6.out) (fun _ _ e => e.elim))
        have DCd := Lib.hid (show RB wd6 w.heap.size (some qa) (l.drop (q + K)) (c - K) from (DC.out.mod M6.out (Nat.le_trans G4.out.size MD.out.size) (fun i hi e => by
          rcases e with e | e
          · have := RD0.out.1; omega
          · have := HPV.out i e; have := G4.out.size; omega)).below (below_of_none GD6.out |> fun h => ⟨h.os, h.tape, h.output, h.size, fun k hk => h.block k (Nat.lt_of_lt_of_le hk (Nat.le_trans G4.out.size (Nat.le_trans MD.out.size M6.out.size)))⟩))
        have HPV6 := Lib.hid (show ∀ g, pv6.ownBlock = some g → w4.heap.size ≤ g from fun g hg => by
          rcases N6.out g hg with h | h
          · exact HPV.out g h
          · exact Nat.le_trans MD.out.size h)
        have HUS6 := Lib.hid (show ∀ u ∈ us ++ vs6, ∀ g, u.ownBlock = some g → w4.heap.size ≤ g ∧ pv6.ownBlock ≠ some g from fun u hu g hg => by
          rcases List.mem_append.1 hu with hu | hu
          · refine ⟨(HUS.out u hu g hg).1, fun e => ?_⟩
            rcases N6.out g e with h | h
            · exact (HUS.out u hu g hg).2 h
            · have := (OG.out.dlt u hu g hg).2; omega
          · refine ⟨?_, (U6.out u hu g hg).2⟩
            rcases (U6.out u hu g hg).1 with h | h
            · exact HPV.out g h
            · exact Nat.le_trans MD.out.size h)
        clear OG O6 R6 M6 N6 U6 GD6 DC MD
        refine helds_begin (fun _ => True) (by kernel_rfl) trivial (fun _ => ?_)
        try rw [hwd6]
        refine helds_take (i := 0) (d := some 70) (v := ?vtb_1) trivial rfl rfl (by kernel_rfl) (fun _ _ _ h => h) ?ytb_1 ?_; case ytb_1 => (refine Or.inl ⟨rfl, fun wx hS => ?_⟩; go_simp; try with_reducible rfl)
        try simp only [Act.put, List.setIfInBounds_toArray, List.set_cons_zero, List.set_cons_succ]
        refine helds_take (i := 1) (d := some 71) (v := ?vtb_2) trivial rfl rfl (by kernel_rfl) (fun _ _ _ h => h) ?ytb_2 ?_; case ytb_2 => (refine Or.inl ⟨rfl, fun wx hS => ?_⟩; go_simp; try with_reducible rfl)
        try simp only [Act.put, List.setIfInBounds_toArray, List.set_cons_zero, List.set_cons_succ]
        refine helds_take (i := 3) (d := some 73) (v := ?vtb_3) trivial rfl rfl (by kernel_rfl) (fun _ _ _ h => h) ?ytb_3 ?_; case ytb_3 => (refine Or.inl ⟨rfl, fun wx hS => ?_⟩; go_simp; try with_reducible rfl)
        try simp only [Act.put, List.setIfInBounds_toArray, List.set_cons_zero, List.set_cons_succ]
        refine helds_take (i := 4) (d := some 74) (v := ?vtb_4) trivial rfl rfl (by kernel_rfl) (fun _ _ _ h => h) ?ytb_4 ?_; case ytb_4 => (refine Or.inl ⟨rfl, fun wx hS => ?_⟩; go_simp; try with_reducible rfl)
        try simp only [Act.put, List.setIfInBounds_toArray, List.set_cons_zero, List.set_cons_succ]
        refine helds_take (i := 5) (d := some 75) (v := ?vtb_5) trivial rfl rfl (by kernel_rfl) (fun _ _ _ h => h) ?ytb_5 ?_; case ytb_5 => (refine Or.inl ⟨rfl, fun wx hS => ?_⟩; go_simp; try with_reducible rfl)
        try simp only [Act.put, List.setIfInBounds_toArray, List.set_cons_zero, List.set_cons_succ]
        refine helds_take (i := 6) (d := some 76) (v := ?vtb_6) trivial rfl rfl (by kernel_rfl) (fun _ _ _ h => h) ?ytb_6 ?_; case ytb_6 => (refine Or.inl ⟨rfl, fun wx hS => ?_⟩; go_simp; try with_reducible rfl)
        try simp only [Act.put, List.setIfInBounds_toArray, List.set_cons_zero, List.set_cons_succ]
        refine helds_one (i := 2) rfl (by kernel_rfl) rfl (fun K hK => ?_)
        refine wp_appPP (d := some 72) rfl (.tmp 70) (.tmp 71) rfl OGd.out O6d.out rfl (by rw [HFLN.out]; rfl) (by have := HGL.out; have := HFL.out; have := HKD.out; have := HM0.out; have := HQ.out; have := M0.out; omega) MDd.out.size ?_
        intro v8 w8 o8 g8 a8
        have O8 := Lib.hid o8
        have G8 := Lib.hid g8
        clear o8 g8 a8
        refine hK.out _ _ trivial (fun _ => ?_)
        clear hK K
        try simp only [Act.put, List.setIfInBounds_toArray, List.set_cons_zero, List.set_cons_succ]
        refine helds_take (i := 7) (d := some 9) (v := ?vtb_7) trivial rfl rfl (by kernel_rfl) (fun _ _ _ h => h) ?ytb_7 ?_; case ytb_7 => (refine Or.inl ⟨rfl, fun wx hS => ?_⟩; go_simp; try with_reducible rfl)
        try simp only [Act.put, List.setIfInBounds_toArray, List.set_cons_zero, List.set_cons_succ]
        refine helds_take (i := 8) (d := some 10) (v := ?vtb_8) trivial rfl rfl (by kernel_rfl) (fun _ _ _ h => h) ?ytb_8 ?_; case ytb_8 => (refine Or.inl ⟨rfl, fun wx hS => ?_⟩; go_simp; try with_reducible rfl)
        try simp only [Act.put, List.setIfInBounds_toArray, List.set_cons_zero, List.set_cons_succ]
        refine helds_take (i := 9) (d := some 11) (v := ?vtb_9) trivial rfl rfl (by kernel_rfl) (fun _ _ _ h => h) ?ytb_9 ?_; case ytb_9 => (refine Or.inl ⟨rfl, fun wx hS => ?_⟩; go_simp; try with_reducible rfl)
        try simp only [Act.put, List.setIfInBounds_toArray, List.set_cons_zero, List.set_cons_succ]
        refine held_end (by kernel_rfl) ?_ _
        go_wp2
        go_roundw
        case rel =>
          have ml := OGd.out.lt
          refine ⟨q + K, k + 1, pv6, us ++ vs6, G ++ FT, some qa, c - K, by first | rfl | go_num, by have := HKM.out; omega, by have := HKD.out; have := HDN.out; have := M0.out; omega, HKN.out, by rw [show l.length - (q + K) = dn - K by have := HDN.out; have := M0.out; omega], DCd.out.mod (Mod.of_grown G8.out) (Nat.le_trans G4.out.size MDd.out.size) (fun i hi e => by have := (ml i e.symm).1; have := G4.out.size; omega), by rw [HE2.out], O8.out, HGA.out, by rw [List.length_append]; have := HGL.out; have := HFL.out; omega, by rw [sumD_app]; have := HGS.out; have := HFL.out; omega, ?_, MDd.out.grown G8.out (fun z hz hlt => by have := (ml z hz).1; omega), HPV6.out, HUS6.out⟩
          rw [HE2.out]
          exact R6d.out.mod (Mod.of_grown G8.out) (fun e => OGd.out.ne_cells R6d.out.2.1 (by decide) e.symm) (fun g hg e => OGd.out.ne_own R6d.out.2.2 hg e.symm)
        case measure => have := HKD.out; have := HKM.out; have := HME.out; simp [intOf, lenV]; omega
    · have hd0i : ¬ (0 : Int) < (dn : Int) := by omega
      have hqq : q = l.length := by have := HDN.out; have := M0.out; omega
      have hlt : l.take q = l := List.take_of_length_le (by omega)
      rw [hlt] at HS HPUT
      have HSE := Lib.hid (show S.err = en by rw [← HS.out, HEN.out])
      rw [HSE.out]
      have O4w := Lib.hid (O4.out.mod MD.out (fun g hg e => by have := W4.out g hg; have := HRW.out; omega) (fun u hu g hg e => (W5.out u hu g hg).2 e))
      clear hq hkq hlt hqq
      by_cases he : en = 0
      · have HP := Lib.hid (show putF G = feedT ts0 l by
          rw [HPUT.out (by rw [HEN.out]; exact he)]
          unfold feedT
          rw [run_end, if_neg (by rw [HEN.out, he]; simp)])
        subst he
        go_wp2_with (first
          | (go_at_call 16
             refine (put_any OG.out (Nat.le_trans G4.out.size MD.out.size) (by have := HGL.out; have := HQ.out; have := M0.out; have := HM0.out; omega) (by have := HGS.out; have := HQ.out; have := M0.out; have := HM0.out; omega)).mono ?_
             rintro e w7 ⟨v7, us7, rfl, o7, g7⟩
             rw [HP.out] at o7
             obtain ⟨A7, c7, rfl, p7, -⟩ := o7.shape
             rw [HFN.out]
             have o4 := O4w.out.none_ g7
             obtain ⟨A8, c8, e8, p8, -⟩ := o4.shape
             rw [HFN.out] at e8
             injection e8 with e8 _ e9
             subst e8 e9
             have P7 := Lib.hid p7
             have P8 := Lib.hid p8
             have G7 := Lib.hid g7
             clear o7 p7 o4 p8 g7)
          | (go_at_call 13
             refine (same_any _ A7 A4 (feedT ts0 l) fn c7 c4 _ HFN.out P7.out P8.out (Nat.le_refl _)).mono ?_
             rintro e w9 ⟨rfl, g9⟩
             have G9 := Lib.hid (grown_trans' G7.out g9)
             clear g9))
        go_ret
        exact ⟨rfl, below_w (MD.out.next (Mod.made (S := fun _ => False) G9.out) (fun _ _ e => e.elim)) G4.out RD0.out.1⟩
      · have hne : (en == 0) = false := by rw [beq_eq_false_iff_ne]; exact he
        go_wp2
        go_ret
        exact ⟨rfl, below_w MD.out G4.out RD0.out.1⟩
end Go.Proofs.Ytcfhpoigfkljpaa
