/- The walk of PtyPieces. -/
import Derived.Test.YtbkaabimafipoaaPtk
namespace Go.Proofs.Ytbkaabimafipoaa
open Go.ChangeShapes Go.WideShapes Go.RowKit

section
variable {P : Program} {w : World} {o : Oper} {a : Act} {Q : Exit → Act → World → Prop}
/-- 'append(s, x...)' over strings. -/
theorem run_appSS {t e : TypeId} (hT : StrT P t e) (ty : TypeId) {base : Nat} {v : Value} {ls : List ByteArray} (hown : OwnS w base e v ls) {B : Nat} {A : Option Addr} {news : List ByteArray} {c : Nat} (hr : RS w B A news c) (hlen : ls.length + news.length ≤ 1000000) (hbase : base ≤ w.heap.size) :
    ∃ v' w', (Builtin.append_ #[t, t] ty #[v, .slice A news.length c]).run P w = .ok v' w' ∧ OwnS w' base e v' (ls ++ news) ∧ w.grownBy w' v.ownBlock ∧ (v'.ownBlock = v.ownBlock ∨ v'.ownBlock = some w.heap.size) := by
  obtain ⟨i0, hi, hz0, hz1, hz2⟩ := info_parts hT.hi
  obtain ⟨h1, h2, h3⟩ := hr
  rcases h3 with ⟨rfl, rfl⟩ | ⟨ad, rfl, hc⟩
  · have hn : news = [] := List.eq_nil_of_length_eq_zero (by omega)
    subst hn
    exact ⟨v, w, run_append_owned_none (P := P) (w := w) base t ty e i0 1 hT.ht hi v ls.length (ls.map Value.string) hown, by simpa using hown, World.grownBy.refl w _, .inl rfl⟩
  · obtain ⟨v', w', hrun, ho, hg, _, hat⟩ := run_append_own_at (P := P) (w := w) base t ty e i0 (.string ⟨#[]⟩) 1 16 hT.ht hi hz0 hz1 hz2 rfl (by decide) v ls.length (ls.map Value.string) hown
      ad news.length c (news.map Value.string) (by rw [List.length_map, Nat.mul_one]) (fun j u hu => by
        rw [List.getElem?_map] at hu
        obtain ⟨x, hx, rfl⟩ := Option.map_eq_some_iff.1 hu
        exact (hc j x hx).2) (strs_one news) (by unfold maxLen; omega) (by omega) hbase
    refine ⟨v', w', hrun, ?_, hg, hat⟩
    unfold OwnS
    rw [List.length_append, List.map_append]
    exact ho
theorem wp_appSS {d : Option Tmp} {K : Act → World → Prop} {t e : TypeId} (hT : StrT P t e) (hd : o.dst = d) (s x : Operand)
    (ho : o.op = .call { callee := .builtin .append, args := #[s, x], argTypes := #[t, t] })
    {base : Nat} {v : Value} {ls : List ByteArray} (hown : OwnS w base e v ls) {B : Nat} {A : Option Addr} {news : List ByteArray} {c : Nat} (hr : RS w B A news c)
    (hs : a.eval s = v) (hx : a.eval x = .slice A news.length c) (hlen : ls.length + news.length ≤ 1000000) (hbase : base ≤ w.heap.size)
    (h : ∀ v' w', OwnS w' base e v' (ls ++ news) → w.grownBy w' v.ownBlock → (v'.ownBlock = v.ownBlock ∨ v'.ownBlock = some w.heap.size) → K (a.put d v') w') : o.wp P a w K Q := by
  subst hd
  obtain ⟨v', w', hrun, h2, h3, h5⟩ := run_appSS hT o.type hown hr hlen hbase
  unfold Oper.wp execOp
  simp only [ho, resolve, invoke, builtin, Sem.run_bind, Sem.run_pure, Result.andThen_ok, List.map_toArray, List.map_cons, List.map_nil, hs, hx, hrun]
  exact h v' w' h2 h3 h5
end
/-- What is shown can be read. -/
def ShS (A : Option Addr) (l : List UInt8) (c : Nat) (x : World) : Prop := ∃ B, RB x B A l c
theorem OwnB.shS {w : World} {b n c : Nat} {e : TypeId} {A : Option Addr} {l : List UInt8} (h : OwnB w b e (.slice A n c) l) : ShS A l c w := by
  obtain ⟨A', c', e, hr, -⟩ := h.shape
  injection e with e1 e2 e3
  subst e1 e3
  exact ⟨_, hr⟩
/-- What stands at the head of each round. -/
def PpRel (w : World) (p q m0 wb : Nat) (ls : List (List UInt8)) (s5 s6 s7 s30 : Value) (wr : World) : Prop :=
  ∃ (k : Nat) (v va vl : Value), va = s5 ∧ s6 = .string (sb (fdF ⟨[], 0, false⟩ (ls.take k).flatten).2.1) ∧ vl = s7 ∧ s30 = .int .i64 k ∧ k ≤ m0 ∧ OwnB wr wb 5 va (ls.take k).flatten ∧ OwnS wr wb 9 vl ((fdF ⟨[], 0, false⟩ (ls.take k).flatten).2.2.map sb) ∧
    PT wr p p v (fdF ⟨[], 0, false⟩ (ls.take k).flatten).1 ∧ PT wr q q (.slice none 0 0) ⟨[], 0, false⟩ ∧ (∀ g, v.ownBlock = some g → va.ownBlock ≠ some g) ∧ wb ≤ wr.heap.size ∧ w.grownBy wr none

set_option maxRecDepth 20000 in
set_option maxHeartbeats 20000000 in
theorem walk_PtyPieces (w : World) (A0 : Option Addr) (ls : List (List UInt8)) (cap0 : Nat) (h0 : RT w w.heap.size A0 ls cap0) (_b : True) : Calls Try.prog 4 #[.slice A0 ls.length cap0] w fun e w' => e = .returned (.bool true) ∧ Below w.heap.size w w' := by
  have H0 := Lib.hid h0
  obtain ⟨m0, hm0⟩ : ∃ m, ls.length = m := ⟨_, rfl⟩
  have M0 := Lib.hid hm0
  have l0 : m0 ≤ 9223372036854775807 := by have := h0.1; have := h0.2.1; unfold maxLen at this; omega
  have TK0 := Lib.hid True.intro
  rw [hm0]
  clear h0 hm0
  go_enter Try.func4, Try.ntmps4
  go_wp2_with (first
    | (have hx := TK0; go_at_call 7; refine (speaks_any _).mono ?_; rintro e w1 ⟨rfl, g1⟩; have G1 := Lib.hid g1; have T1 := Lib.hid (H0.out.below (below_of_none g1)); clear g1 hx TK0; have TK1 := Lib.hid True.intro)
    | (have hx := TK1; go_at_call 8; refine (great_any _ A0 ls m0 cap0 M0.out (T1.out.moreB G1.out.size)).mono ?_; rintro e w2 ⟨he, rfl⟩; clear hx TK1; rcases he with rfl | ⟨rfl, hsm⟩; rotate_left; (have HSM := Lib.hid hsm; have TK2 := Lib.hid True.intro; clear hsm); rotate_left)
    | (have hx := TK2; go_at_call 9; refine (new_any _).mono ?_; rintro e w3 ⟨rfl, p3, g3⟩; have P3 := Lib.hid p3; have G3 := Lib.hid (grown_trans' G1.out g3); have S3 := Lib.hid g3.size; clear p3 g3 hx TK2; have TK3 := Lib.hid True.intro)
    | (have hx := TK3; go_at_call 9; refine (new_any _).mono ?_; rintro e w4 ⟨rfl, p4, g4⟩; have P4 := Lib.hid p4; have P34 := Lib.hid (P3.out.made g4); have G4 := Lib.hid (grown_trans' G3.out g4); clear p4 g4 hx TK3))
  · go_ret
    exact ⟨rfl, below_of_none G1.out⟩
  have PNE := Lib.hid (show w2.heap.size ≠ w3.heap.size by have := P3.out.lt.2; omega)
  have PB := Lib.hid (show w.heap.size ≤ w2.heap.size from G1.out.size)
  have QB := Lib.hid (show w.heap.size ≤ w3.heap.size from G3.out.size)
  have WB := Lib.hid (show w.heap.size ≤ w4.heap.size from G4.out.size)
  have S0 := Lib.hid (show PpRel w w2.heap.size w3.heap.size m0 w4.heap.size ls (.slice (some ⟨w4.heap.size, 0, none⟩) 0 0) (.string ⟨#[]⟩) (.slice (some ⟨w4.heap.size + 1, 0, none⟩) 0 0) (.int .i64 0) ((w4.alloc (.cells #[] 5)).alloc (.cells #[] 9)) from
    ⟨0, _, _, _, rfl, rfl, rfl, rfl, Nat.zero_le _, by simpa using (OwnB.new0 w4 w4.heap.size 5 (Nat.le_refl _)).alloc _, ⟨by simp [fdF], .inr ⟨w4.heap.size + 1, 0, #[], rfl, by omega, by rw [← World.size_alloc w4 (.cells #[] 5)]; exact heap_alloc_new _ _, Nat.le_refl _, by simp [maxLen], rfl, rfl⟩⟩,
      by simpa [fdF] using (P34.out.alloc _).alloc _, (P4.out.alloc _).alloc _, fun g hg e => by simp [Value.ownBlock] at hg, by rw [World.size_alloc, World.size_alloc]; omega, grown_trans' (grown_trans' G4.out (grown_alloc _ _ none)) (grown_alloc _ _ none)⟩)
  clear P3 G3 S3 T1 G1 P4 P34 G4
  generalize w2.heap.size = p at *
  generalize w3.heap.size = q at *
  generalize hwb : w4.heap.size = wb at *
  go_loopw [5, 6, 7, 30] (fun s5 s6 s7 s30 wr => PpRel w p q m0 wb ls s5 s6 s7 s30 wr) (fun _ _ _ s30 _ => m0 - (intOf s30).toNat)
  case atStart => exact S0.out
  case round =>
    obtain ⟨k, v, va, vl, e5, rfl, e7, rfl, hk, hva, hvl, hp, hq, hap, hwbs, hg⟩ := hrel
    subst e5 e7
    have WBS := Lib.hid hwbs
    clear hwbs
    by_cases hkn : k < m0
    · have hki : (k : Int) < (m0 : Int) := by omega
      obtain ⟨b, off, rfl, hbb, hc⟩ := H0.out.open_ (by rw [M0.out]; omega)
      obtain ⟨l, hl⟩ : ∃ l, ls[k]? = some l := ⟨_, List.getElem?_eq_getElem (by rw [M0.out]; omega)⟩
      obtain ⟨V, c, hc0, hr⟩ := hc k l hl
      have FT := Lib.hid (flat_take ls k l hl)
      have hlt := flat_le ls (k + 1)
      rw [FT.out, List.length_append] at hlt
      have LB := Lib.hid (show l.length ≤ 2000 by have := HSM.out.h2; omega)
      have LF := Lib.hid (show (ls.take k).flatten.length ≤ 2000 ∧ (fdF ⟨[], 0, false⟩ (ls.take k).flatten).2.2.length ≤ 2000 by have h2 := fdF_lines ⟨[], 0, false⟩ (ls.take k).flatten; have := HSM.out.h2; omega)
      have LFS := Lib.hid (show (fdF ⟨[], 0, false⟩ (ls.take k).flatten).2.1.length ≤ 480000 by have h2 := fdF_shown (s := ⟨[], 0, false⟩) (by simp) (ls.take k).flatten; have := LF.out; omega)
      have LL := Lib.hid (show (fdF ⟨[], 0, false⟩ (ls.take k).flatten).1.line.length ≤ 80 from fdF_line (by simp) _)
      have ST := Lib.hid (show (fdF ⟨[], 0, false⟩ (ls.take k).flatten).1.stops ≤ 1000000000 by have h1 := fdF_stops ⟨[], 0, false⟩ (ls.take k).flatten; have e3 : (Tm.mk [] 0 false).stops = 0 := rfl; have := HSM.out.h2; omega)
      have FA := Lib.hid (show fdF ⟨[], 0, false⟩ (ls.take (k + 1)).flatten = ((fdF (fdF ⟨[], 0, false⟩ (ls.take k).flatten).1 l).1, (fdF ⟨[], 0, false⟩ (ls.take k).flatten).2.1 ++ (fdF (fdF ⟨[], 0, false⟩ (ls.take k).flatten).1 l).2.1, (fdF ⟨[], 0, false⟩ (ls.take k).flatten).2.2 ++ (fdF (fdF ⟨[], 0, false⟩ (ls.take k).flatten).1 l).2.2) by rw [FT.out, fdF_app])
      obtain ⟨F, hF⟩ : ∃ F, F = fdF ⟨[], 0, false⟩ (ls.take k).flatten := ⟨_, rfl⟩
      rw [← hF] at hp hvl LF LFS LL ST FA ⊢
      have k0 : wr.cell? ⟨b, off + k, none⟩ = some (.slice V l.length c) := (World.cell?_of_block (hg.block b hbb (fun e => by cases e))).trans hc0
      obtain ⟨n, hn⟩ : ∃ n, l.length = n := ⟨_, rfl⟩
      have LN := Lib.hid hn
      rw [hn] at k0 LB
      obtain ⟨n5, hn5⟩ : ∃ x, (fdF F.1 l).2.1.length = x := ⟨_, rfl⟩
      obtain ⟨n6, hn6⟩ : ∃ x, (List.map sb (fdF F.1 l).2.2).length = x := ⟨_, rfl⟩
      have HN5 := Lib.hid hn5
      have HN6 := Lib.hid hn6
      have NB := Lib.hid (show n5 ≤ 1000000 ∧ n6 ≤ 2000 by have h1 := fdF_shown LL.out l; have h2 := fdF_lines F.1 l; rw [List.length_map] at hn6; have := LB.out; omega)
      obtain ⟨sT, hsT⟩ : ∃ x, sb F.2.1 = x := ⟨_, rfl⟩
      have HST := Lib.hid hsT
      have Z7 := Lib.hid (show ¬ 9223372036854775807 < sT.size + (fdF F.1 l).2.1.length by have e1 : sT.size = F.2.1.length := (by rw [← hsT]; rfl); have e2 : (sb (fdF F.1 l).2.1).size = (fdF F.1 l).2.1.length := rfl; have := NB.out; have := LFS.out; omega)
      rw [hsT]
      have PP := Lib.hid hp
      have PQ := Lib.hid hq
      have VA := Lib.hid hva
      have LV := Lib.hid hvl
      have AP := Lib.hid hap
      have GR := Lib.hid hg
      have HV := Lib.hid hr
      have HVR := Lib.hid (show RB wr wr.heap.size V l c from (hr.below (below_of_none hg)).more hg.size)
      have HV4 := Lib.hid (hr.below (below_of_none hg))
      have APV := Lib.hid (show ∀ a, V = some a → 0 < l.length → a.block ≠ p ∧ v.ownBlock ≠ some a.block from fun a ha h => by have h1 := hr.blk a ha h; have := PB.out; exact ⟨by omega, fun e => by have := (hp.vlt _ e).1; omega⟩)
      have HKN := Lib.hid hkn
      have hkw : IntKind.i64.wrap ((k : Int) + 1) = ((k + 1 : Nat) : Int) := by simp [IntKind.wrap, IntKind.bits, IntKind.signed]; omega
      clear hp hq hva hvl hap hg hr hc hbb hl hlt hc0 hn hF hn5 hn6 hk hkn hsT
      go_wp2_with (go_at_call 10; refine (feed_any PP.out (by have := PP.out.lt; omega) _ l n c LN.out HVR.out APV.out (by have := LB.out; omega) LL.out ST.out).mono ?_; rintro e w5 ⟨v5, sv, lv, rfl, p5, o5, s5, m5, n5', a5⟩; obtain ⟨A5, c5, rfl, r5, -⟩ := o5.shape; obtain ⟨A6, c6, rfl, r6, -⟩ := s5.shape; rw [HN5.out] at o5 a5 ⊢; rw [HN6.out] at s5 ⊢; have P5 := Lib.hid p5; have O5 := Lib.hid o5; have S5 := Lib.hid s5; have M5 := Lib.hid m5; have N5 := Lib.hid n5'; have AP5 := Lib.hid a5; clear p5 o5 s5 m5 n5' a5 r5 r6)
      have VA5 := Lib.hid (show OwnB w5.drew wb 5 va (ls.take k).flatten from OwnB.mod VA.out M5.out.drew (fun g hg e => by rcases e with e | e; (subst e; exact VA.out.ne_cells PP.out.2.1 (by decide) hg); exact AP.out g e hg))
      have AVV := Lib.hid (show ∀ g, (Value.slice A5 n5 c5).ownBlock = some g → va.ownBlock ≠ some g from fun g hg e => by have h1 := (O5.out.lt g hg).1; have := (VA.out.lt g e).2; omega)
      have AVP := Lib.hid (show ∀ g, v5.ownBlock = some g → va.ownBlock ≠ some g from fun g hg e => by rcases N5.out g hg with h | h; exact AP.out g h e; (have := (VA.out.lt g e).2; omega))
      have OV5 := Lib.hid (show OwnB w5.drew wr.heap.size 5 (.slice A5 n5 c5) (fdF F.1 l).2.1 from O5.out)
      have LV5 := Lib.hid (show OwnS w5.drew wb 9 vl (F.2.2.map sb) from OwnS.mod LV.out M5.out.drew (fun g hg e => by rcases e with e | e; (subst e; exact LV.out.ne_cells PP.out.2.1 (by decide) hg); exact own_nes PP.out.2.2 LV.out g e hg))
      have LS5 := Lib.hid (show OwnS w5.drew wr.heap.size 9 (.slice A6 n6 c6) ((fdF F.1 l).2.2.map sb) from S5.out)
      have P5d := Lib.hid (show PT w5.drew p p v5 (fdF F.1 l).1 from P5.out)
      have PQ5 := Lib.hid (show PT w5.drew q q (.slice none 0 0) ⟨[], 0, false⟩ from PQ.out.mod M5.out.drew (fun e => by rcases e with e | e; exact PNE.out e.symm; exact PP.out.2.2.ne_cells PQ.out.2.1 (by decide) e) (fun g hg e => by simp [Value.ownBlock] at hg))
      have GW5 := Lib.hid (show w.grownBy w5.drew none from grown_drew (none_feed GR.out PP.out PB.out M5.out))
      have RVd := Lib.hid (show RB w5.drew w.heap.size V l c from RB.mod HV4.out M5.out.drew GR.out.size (fun i hi e => by rcases e with e | e; (have := PB.out; omega); (have := (PP.out.vlt i e).1; have := PB.out; omega)))
      have Z5 := Lib.hid (show wb ≤ w5.drew.heap.size from Nat.le_trans WBS.out M5.out.size)
      have hS5 : ShS A5 (fdF F.1 l).2.1 c5 w5.drew := OV5.out.shS
      clear M5 O5 S5 P5 N5 AP5 AP LV VA PP PQ k0
      refine helds_begin (ShS A5 (fdF F.1 l).2.1 c5) (by kernel_rfl) hS5 (fun _ => ?_)
      refine helds_take (i := 0) (d := some 40) (v := ?vb13_1) (by assumption) rfl rfl (by kernel_rfl) (fun _ _ _ h => h) ?yb13_1 ?_; case yb13_1 => (refine Or.inl ⟨rfl, fun wx hS => ?_⟩; go_simp; try with_reducible rfl)
      try simp only [Act.put, List.setIfInBounds_toArray, List.set_cons_zero, List.set_cons_succ]
      refine helds_take (i := 1) (d := some 41) (v := ?vb13_2) (by assumption) rfl rfl (by kernel_rfl) (fun _ _ _ h => h) ?yb13_2 ?_; case yb13_2 => (refine Or.inl ⟨rfl, fun wx hS => ?_⟩; go_simp; try with_reducible rfl)
      try simp only [Act.put, List.setIfInBounds_toArray, List.set_cons_zero, List.set_cons_succ]
      refine helds_take (i := 3) (d := some 43) (v := ?vb13_3) (by assumption) rfl rfl (by kernel_rfl) (fun _ _ _ h => h) ?yb13_3 ?_; case yb13_3 => (refine Or.inl ⟨rfl, fun wx hS => ?_⟩; go_simp; try with_reducible rfl)
      try simp only [Act.put, List.setIfInBounds_toArray, List.set_cons_zero, List.set_cons_succ]
      refine helds_take (i := 4) (d := some 44) (v := ?vb13_4) (by assumption) rfl rfl (by kernel_rfl) (fun _ _ _ h => h) ?yb13_4 ?_; case yb13_4 => (refine Or.inl ⟨rfl, fun wx hS => ?_⟩; go_simp; try with_reducible rfl)
      try simp only [Act.put, List.setIfInBounds_toArray, List.set_cons_zero, List.set_cons_succ]
      refine helds_take (i := 5) (d := some 45) (v := _) (by assumption) rfl rfl (by kernel_rfl) (fun _ _ _ h => h) (yields_convX (.tmp 44) rfl rfl (by first | rfl | go_simp) (fun wx hx => by obtain ⟨B, hr⟩ := hx; have := run_strB byteT strTy hr; rw [HN5.out] at this; exact this)) ?_
      try simp only [Act.put, List.setIfInBounds_toArray, List.set_cons_zero, List.set_cons_succ]
      refine helds_take (i := 6) (d := some 46) (v := ?vb13_6) (by assumption) rfl rfl (by kernel_rfl) (fun _ _ _ h => h) ?yb13_6 ?_; case yb13_6 => (refine Or.inl ⟨rfl, fun wx hS => ?_⟩; have z7 : ¬ 9223372036854775807 < sT.size + (fdF F.1 l).2.1.length := Z7.out; go_simp; try with_reducible rfl)
      try simp only [Act.put, List.setIfInBounds_toArray, List.set_cons_zero, List.set_cons_succ]
      refine helds_take (i := 7) (d := some 47) (v := ?vb13_7) (by assumption) rfl rfl (by kernel_rfl) (fun _ _ _ h => h) ?yb13_7 ?_; case yb13_7 => (refine Or.inl ⟨rfl, fun wx hS => ?_⟩; go_simp; try with_reducible rfl)
      try simp only [Act.put, List.setIfInBounds_toArray, List.set_cons_zero, List.set_cons_succ]
      refine helds_take (i := 8) (d := some 48) (v := ?vb13_8) (by assumption) rfl rfl (by kernel_rfl) (fun _ _ _ h => h) ?yb13_8 ?_; case yb13_8 => (refine Or.inl ⟨rfl, fun wx hS => ?_⟩; go_simp; try with_reducible rfl)
      try simp only [Act.put, List.setIfInBounds_toArray, List.set_cons_zero, List.set_cons_succ]
      refine helds_one (i := 2) rfl (by kernel_rfl) rfl (fun K hK => ?_)
      refine wp_appB (d := some 42) byteT rfl (.tmp 40) (.tmp 41) rfl VA5.out RVd.out rfl (by rw [LN.out]; rfl) (by rw [LN.out]; have := LB.out; have := LF.out; omega) (by have := Z5.out; omega) ?_
      intro v6 w6 o6 g6 a6
      have O6 := Lib.hid (OwnB.mod OV5.out (Mod.of_grown g6) (fun g hg e => AVV.out g hg e.symm))
      have hS6 : ShS A5 (fdF F.1 l).2.1 c5 w6 := O6.out.shS
      have VB6 := Lib.hid o6
      have LV6 := Lib.hid (OwnS.mod LV5.out (Mod.of_grown g6) (fun g hg e => own_nes VA5.out LV5.out g e.symm hg))
      have LS6 := Lib.hid (OwnS.mod LS5.out (Mod.of_grown g6) (fun g hg e => own_nes VA5.out LS5.out g e.symm hg))
      have RS6 := Lib.hid (show RS w6 w6.heap.size A6 ((fdF F.1 l).2.2.map sb) c6 by obtain ⟨_, _, e, h, -⟩ := LS6.out.shape; injection e with e1 e2 e3; subst e1 e3; exact h)
      have P6 := Lib.hid (P5d.out.mod (Mod.of_grown g6) (fun e => VA5.out.ne_cells P5d.out.2.1 (by decide) e.symm) (fun g hg e => AVP.out g hg e.symm))
      have Q6 := Lib.hid (PQ5.out.mod (Mod.of_grown g6) (fun e => VA5.out.ne_cells PQ5.out.2.1 (by decide) e.symm) (fun g hg e => by simp [Value.ownBlock] at hg))
      have G6 := Lib.hid (grown_row GW5.out g6 (fun g hg => by have h1 := (VA5.out.lt g hg).1; have := WB.out; omega))
      have A6x := Lib.hid (show ∀ g, v5.ownBlock = some g → v6.ownBlock ≠ some g from fun g hg e => by
        rcases a6 with h | h
        · rw [h] at e; exact AVP.out g hg e
        · rw [h] at e; injection e with e; have := (P5d.out.vlt g hg).2.1; omega)
      have Z6 := Lib.hid (show w5.drew.heap.size ≤ w6.heap.size from g6.size)
      clear o6 g6 a6
      refine hK.out _ _ (by assumption) (fun _ => ?_)
      clear hK K
      try simp only [Act.put, List.setIfInBounds_toArray, List.set_cons_zero, List.set_cons_succ]
      refine helds_one (i := 9) rfl (by kernel_rfl) rfl (fun K hK => ?_)
      refine wp_appSS (d := some 49) strT rfl (.tmp 47) (.tmp 48) rfl LV6.out (RS6.out) rfl (by rw [HN6.out]; rfl) (by rw [HN6.out, List.length_map]; have := NB.out; have := LF.out; omega) (by have := Z5.out; have := Z6.out; omega) ?_
      intro v7 w7 o7 g7 a7
      have O7 := Lib.hid (OwnB.mod O6.out (Mod.of_grown g7) (fun g hg e => own_nes O6.out LV6.out g hg e.symm))
      have hS7 : ShS A5 (fdF F.1 l).2.1 c5 w7 := O7.out.shS
      have VB7 := Lib.hid (OwnB.mod VB6.out (Mod.of_grown g7) (fun g hg e => own_nes VB6.out LV6.out g hg e.symm))
      have LV7 := Lib.hid o7
      have P7 := Lib.hid (P6.out.mod (Mod.of_grown g7) (fun e => LV6.out.ne_cells P6.out.2.1 (by decide) e.symm) (fun g hg e => own_nes P6.out.2.2 LV6.out g hg e.symm))
      have Q7 := Lib.hid (Q6.out.mod (Mod.of_grown g7) (fun e => LV6.out.ne_cells Q6.out.2.1 (by decide) e.symm) (fun g hg e => by simp [Value.ownBlock] at hg))
      have G7 := Lib.hid (grown_row G6.out g7 (fun g hg => by have h1 := (World.ownsRow.lt LV6.out g hg).1; have := WB.out; omega))
      have Z7w := Lib.hid (show w6.heap.size ≤ w7.heap.size from g7.size)
      clear o7 g7 a7
      refine hK.out _ _ (by assumption) (fun _ => ?_)
      clear hK K
      try simp only [Act.put, List.setIfInBounds_toArray, List.set_cons_zero, List.set_cons_succ]
      refine helds_take (i := 10) (d := some 5) (v := ?vb13_9) (by assumption) rfl rfl (by kernel_rfl) (fun _ _ _ h => h) ?yb13_9 ?_; case yb13_9 => (refine Or.inl ⟨rfl, fun wx hS => ?_⟩; go_simp; try with_reducible rfl)
      try simp only [Act.put, List.setIfInBounds_toArray, List.set_cons_zero, List.set_cons_succ]
      refine helds_take (i := 11) (d := some 6) (v := ?vb13_10) (by assumption) rfl rfl (by kernel_rfl) (fun _ _ _ h => h) ?yb13_10 ?_; case yb13_10 => (refine Or.inl ⟨rfl, fun wx hS => ?_⟩; go_simp; try with_reducible rfl)
      try simp only [Act.put, List.setIfInBounds_toArray, List.set_cons_zero, List.set_cons_succ]
      refine helds_take (i := 12) (d := some 7) (v := ?vb13_11) (by assumption) rfl rfl (by kernel_rfl) (fun _ _ _ h => h) ?yb13_11 ?_; case yb13_11 => (refine Or.inl ⟨rfl, fun wx hS => ?_⟩; go_simp; try with_reducible rfl)
      try simp only [Act.put, List.setIfInBounds_toArray, List.set_cons_zero, List.set_cons_succ]
      refine held_end (by kernel_rfl) ?_ _
      go_wp2
      go_roundw
      case rel =>
        refine ⟨k + 1, v5, v6, v7, rfl, ?_, rfl, by first | rfl | go_num, by have := HKN.out; omega, by rw [FT.out]; exact VB7.out, by rw [FA.out]; show OwnS w7 wb _ v7 ((F.2.2 ++ (fdF F.1 l).2.2).map sb); rw [List.map_append]; exact LV7.out, by rw [FA.out]; exact P7.out, Q7.out, A6x.out, by have := Z5.out; have := Z6.out; have := Z7w.out; omega, G7.out⟩
        rw [FA.out]
        show Value.string _ = Value.string (sb (F.2.1 ++ (fdF F.1 l).2.1))
        rw [sb_app, HST.out]
        first | rfl | skip
      case measure => have := HKN.out; simp [intOf]; omega
    · obtain rfl : k = m0 := by omega
      have hki : ¬ (k : Int) < (k : Int) := by omega
      have hlt : ls.take k = ls := List.take_of_length_le (by rw [M0.out]; exact Nat.le_refl _)
      rw [hlt] at hva hvl hp ⊢
      obtain ⟨nf, hnf⟩ : ∃ x, ls.flatten.length = x := ⟨_, rfl⟩
      obtain ⟨n5, hn5⟩ : ∃ x, (fdF ⟨[], 0, false⟩ ls.flatten).2.1.length = x := ⟨_, rfl⟩
      obtain ⟨n6, hn6⟩ : ∃ x, (List.map sb (fdF ⟨[], 0, false⟩ ls.flatten).2.2).length = x := ⟨_, rfl⟩
      have FL := Lib.hid hnf
      have HN5 := Lib.hid hn5
      have HN6 := Lib.hid hn6
      have NB := Lib.hid (show n6 ≤ 2000 by have h2 := fdF_lines ⟨[], 0, false⟩ ls.flatten; rw [List.length_map] at hn6; have := HSM.out.h2; omega)
      obtain ⟨sT, hsT⟩ : ∃ x, sb (fdF ⟨[], 0, false⟩ ls.flatten).2.1 = x := ⟨_, rfl⟩
      have HST := Lib.hid hsT
      rw [hsT]
      obtain ⟨Aa, cf, hva2, ra, -⟩ := hva.shape
      obtain ⟨Av, cv, hvl2, rl, -⟩ := hvl.shape
      rw [hnf] at hva2
      rw [hn6] at hvl2
      subst hva2 hvl2
      have PP := Lib.hid hp
      have PQ := Lib.hid hq
      have LV := Lib.hid hvl
      have RVA := Lib.hid ra
      have APQ := Lib.hid (show ∀ a, Aa = some a → 0 < ls.flatten.length → a.block ≠ q from fun a ha _ e => by subst ha; exact hva.ne_cells hq.2.1 (by decide) (by rw [← e]; rfl))
      have GR := Lib.hid hg
      have TK0 := Lib.hid True.intro
      clear hp hq hva hvl hap hg ra rl hlt hnf hn5 hn6 hsT
      go_wp2_with (first
        | (have hx := TK0; go_at_call 10; refine (feed_any PQ.out (by have := PQ.out.lt; omega) _ ls.flatten nf cf FL.out RVA.out (fun a ha h => ⟨APQ.out a ha h, by simp [Value.ownBlock]⟩) (by have := HSM.out.h2; have := FL.out; omega) (by simp) (by simp)).mono ?_; rintro e w5 ⟨v5, sv, lv, rfl, p5, o5, s5, m5, n5', a5⟩; obtain ⟨A5, c5, rfl, r5, -⟩ := o5.shape; obtain ⟨A6, c6, rfl, r6, -⟩ := s5.shape; rw [HN5.out] at o5 ⊢; rw [HN6.out] at s5 ⊢; have P5 := Lib.hid (PP.out.mod m5 (fun e => by rcases e with e | e; exact PNE.out e; simp [Value.ownBlock] at e) (fun g hg e => by rcases e with e | e; (subst e; exact PP.out.2.2.ne_cells PQ.out.2.1 (by decide) hg); simp [Value.ownBlock] at e)); have Q5 := Lib.hid p5; have R5 := Lib.hid r5; have R6 := Lib.hid r6; have L5 := Lib.hid (OwnS.mod LV.out m5 (fun g hg e => by rcases e with e | e; (subst e; exact LV.out.ne_cells PQ.out.2.1 (by decide) hg); simp [Value.ownBlock] at e)); have RLV := Lib.hid (show RS w5 w5.heap.size Av ((fdF ⟨[], 0, false⟩ ls.flatten).2.2.map sb) cv by obtain ⟨_, _, e, h, -⟩ := L5.out.shape; injection e with e1 e2 e3; subst e1 e3; exact h); have G5 := Lib.hid (none_feed GR.out PQ.out QB.out m5); clear p5 o5 s5 m5 n5' a5 r5 r6 hx TK0; have TK1 := Lib.hid True.intro)
        | (have hx := TK1; refine wpList_convR rfl (.tmp 57) rfl (u := .slice A5 n5 c5) (v := .string sT) (by first | rfl | go_simp) (by have h := run_strB byteT strTy R5.out; rw [HN5.out, show (⟨(fdF ⟨[], 0, false⟩ ls.flatten).2.1.toArray⟩ : ByteArray) = sT from HST.out] at h; exact h) ?_; clear hx TK1; have TK2 := Lib.hid True.intro)
        | (have hx := TK2; go_at_call 12; refine (same_true _ A6 Av _ n6 c6 cv _ _ HN6.out R6.out RLV.out (by have := NB.out; omega)).mono ?_; rintro e w6 ⟨rfl, m6, hw6⟩; have P6 := Lib.hid (show PT w6 _ _ _ _ by rw [hw6]; exact P5.out.made (grown_drewN (World.grownBy.refl _ _) m6)); have Q6 := Lib.hid (show PT w6 _ _ _ _ by rw [hw6]; exact Q5.out.made (grown_drewN (World.grownBy.refl _ _) m6)); have G6 := Lib.hid (show w.grownBy w6 none by rw [hw6]; exact grown_drewN G5.out _); clear hw6 hx TK2; have TK3 := Lib.hid True.intro)
        | (have hx := TK3; go_at_call 13; refine (line_any P6.out).mono ?_; rintro e w7 ⟨rfl, rfl⟩; clear hx TK3; have TK4 := Lib.hid True.intro)
        | (have hx := TK4; go_at_call 13; refine (line_any Q6.out).mono ?_; rintro e w7 ⟨rfl, rfl⟩; clear hx TK4; have TK5 := Lib.hid True.intro)
        | (have hx := TK5; go_at_call 14; refine (stops_any P6.out).mono ?_; rintro e w7 ⟨rfl, rfl⟩; clear hx TK5; have TK6 := Lib.hid True.intro)
        | (have hx := TK6; go_at_call 14; refine (stops_any Q6.out).mono ?_; rintro e w7 ⟨rfl, rfl⟩; clear hx TK6))
      go_ret
      exact ⟨rfl, below_of_none G6.out⟩
end Go.Proofs.Ytbkaabimafipoaa
