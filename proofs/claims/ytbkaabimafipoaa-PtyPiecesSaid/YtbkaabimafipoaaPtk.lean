/- The walk of PtyFeeds. -/
import Derived.Test.YtbkaabimafipoaaPtj
namespace Go.Proofs.Ytbkaabimafipoaa
open Go.ChangeShapes Go.WideShapes Go.RowKit

theorem RT.moreB {w : World} {B B' : Nat} {A : Option Addr} {ls : List (List UInt8)} {cap : Nat} (h : RT w B A ls cap) (hB : B ≤ B') : RT w B' A ls cap :=
  ⟨h.1, h.2.1, h.2.2.imp id fun ⟨a, hA, hc⟩ => ⟨a, hA, fun k l hl => by
    obtain ⟨h1, V, c, h2, h3⟩ := hc k l hl
    exact ⟨Nat.lt_of_lt_of_le h1 hB, V, c, h2, h3.more hB⟩⟩⟩
theorem RB.blk {w : World} {B : Nat} {A : Option Addr} {l : List UInt8} {c : Nat} (h : RB w B A l c) : ∀ a, A = some a → 0 < l.length → a.block < B := by
  intro a hA hl
  rcases h.2.2 with ⟨h0, _⟩ | ⟨a', hA', hc⟩
  · rw [hA] at h0; cases h0
  · rw [hA] at hA'
    injection hA' with hA'
    subst hA'
    exact (hc 0 _ (List.getElem?_eq_getElem hl)).1
theorem RP.mod' {S : Nat → Prop} {w w' : World} {m : Nat} {s : Tm} {y : UInt8} (h : RP w m s y) (k : Mod S w w') (hn : ¬ S m) : RP w' m s y := ⟨h.1.mod k hn, h.2⟩
theorem own_CB {w : World} {b : Nat} {A : Option Addr} {n c : Nat} {l : List UInt8} (h : OwnB w b 5 (.slice A n c) l) : ∀ g, (Value.slice A n c).ownBlock = some g → A = some ⟨g, 0, none⟩ ∧ n ≤ c ∧ ∃ cs, CB w g 5 cs ∧ cs.length = c := by
  intro g hg
  rcases h.2 with ⟨hv, _⟩ | ⟨g', cap, cur, hv, _, hg', hc, _, hz, _⟩
  · rw [hv] at hg; simp [Value.ownBlock] at hg
  · simp only [Value.slice.injEq] at hv
    obtain ⟨rfl, rfl, rfl⟩ := hv
    have e : g' = g := by simpa [Value.ownBlock] using hg
    subst e
    exact ⟨rfl, hc, cur.toList, by rw [CB, Array.toArray_toList]; exact hg', by simpa using hz⟩
theorem own_CBs {w : World} {b : Nat} {A : Option Addr} {n c : Nat} {l : List ByteArray} (h : OwnS w b 9 (.slice A n c) l) : ∀ g, (Value.slice A n c).ownBlock = some g → A = some ⟨g, 0, none⟩ ∧ n ≤ c ∧ ∃ cs, CB w g 9 cs ∧ cs.length = c := by
  intro g hg
  rcases h.2 with ⟨hv, _⟩ | ⟨g', cap, cur, hv, _, hg', hc, _, hz, _⟩
  · rw [hv] at hg; simp [Value.ownBlock] at hg
  · simp only [Value.slice.injEq] at hv
    obtain ⟨rfl, rfl, rfl⟩ := hv
    have e : g' = g := by simpa [Value.ownBlock] using hg
    subst e
    exact ⟨rfl, hc, cur.toList, by rw [CB, Array.toArray_toList]; exact hg', by simpa using hz⟩
theorem A_of {w : World} {b k : Nat} {e : TypeId} {A : Option Addr} {n c : Nat} {xs : List Value} (h : w.ownsRow b e 1 (.slice A n c) k xs) : (A = none ∧ n = 0) ∨ ∃ g, (Value.slice A n c).ownBlock = some g := by
  cases A with
  | none =>
    rcases h.2 with ⟨hv, _⟩ | ⟨g', cap, cur, hv, _⟩
    · injection hv with _ h2 _
      exact .inl ⟨rfl, h2⟩
    · injection hv with h1 _ _
      cases h1
  | some a => exact .inr ⟨a.block, rfl⟩
theorem none_mod2 {w x y : World} {S : Nat → Prop} (hg : w.grownBy x none) (hM : Mod S x y) (hs : ∀ k, S k → w.heap.size ≤ k) : w.grownBy y none :=
  ⟨hM.os.trans hg.os, hM.tape.trans hg.tape, hM.output.trans hg.output, Nat.le_trans hg.size hM.size, fun k hk _ => (hM.block k (Nat.lt_of_lt_of_le hk hg.size) (fun e => by have := hs k e; omega)).trans (hg.block k hk (fun e => by cases e))⟩
theorem below_rw {B : Nat} {w w' : World} (h : w.grownBy w' none) (hB : B ≤ w.heap.size) : Below B w w' := ⟨h.os, h.tape, h.output, h.size, fun i hi => h.block i (Nat.lt_of_lt_of_le hi hB) (fun e => by cases e)⟩
/-- What stands at the head of each round. -/
def PfRel (w : World) (p mm m0 : Nat) (ls : List (List UInt8)) (s25 : Value) (wr : World) : Prop :=
  ∃ (k : Nat) (v : Value) (y : UInt8), s25 = .int .i64 k ∧ k ≤ m0 ∧ PT wr p p v (fdF ⟨[], 0, false⟩ (ls.take k).flatten).1 ∧ RP wr mm (fdF ⟨[], 0, false⟩ (ls.take k).flatten).1 y ∧ w.grownBy wr none

set_option maxRecDepth 20000 in
set_option maxHeartbeats 20000000 in
theorem walk_PtyFeeds (w : World) (A0 : Option Addr) (ls : List (List UInt8)) (cap0 : Nat) (h0 : RT w w.heap.size A0 ls cap0) (_b : True) : Calls Try.prog 3 #[.slice A0 ls.length cap0] w fun e w' => e = .returned (.bool true) ∧ Below w.heap.size w w' := by
  have H0 := Lib.hid h0
  obtain ⟨m0, hm0⟩ : ∃ m, ls.length = m := ⟨_, rfl⟩
  have M0 := Lib.hid hm0
  have l0 : m0 ≤ 9223372036854775807 := by have := h0.1; have := h0.2.1; unfold maxLen at this; omega
  rw [hm0]
  clear h0 hm0
  go_enter Try.func3, Try.ntmps3
  go_wp2_with (first
    | (go_at_call 7; refine (speaks_any _).mono ?_; rintro e w1 ⟨rfl, g1⟩; have G1 := Lib.hid g1; have T1 := Lib.hid (H0.out.below (below_of_none g1)); clear g1)
    | (go_at_call 8; refine (great_any _ A0 ls m0 cap0 M0.out (T1.out.moreB G1.out.size)).mono ?_; rintro e w2 ⟨he, rfl⟩; rcases he with rfl | ⟨rfl, hsm⟩)
    | (go_at_call 9; refine (new_any _).mono ?_; rintro e w3 ⟨rfl, p3, g3⟩; have P3 := Lib.hid p3; have G3 := Lib.hid (grown_trans' G1.out g3); have S3 := Lib.hid g3.size; have HSM := Lib.hid hsm; clear p3 g3 hsm))
  · go_ret
    exact ⟨rfl, below_of_none G1.out⟩
  have S0 := Lib.hid (show PfRel w w2.heap.size w3.heap.size m0 ls (.int .i64 0) (w3.alloc (.cells #[.string ⟨#[]⟩, .int .u8 0, .int .i64 0] 29)) from
    ⟨0, _, 0, rfl, Nat.zero_le _, by simpa [fdF] using P3.out.alloc _, ⟨CB.new w3 _ [.string ⟨#[]⟩, .int .u8 0, .int .i64 0], by simp [fdF]⟩, grown_trans' G3.out (grown_alloc _ _ none)⟩)
  have PNE := Lib.hid (show w2.heap.size ≠ w3.heap.size by have := P3.out.lt.2; omega)
  have PB := Lib.hid (show w.heap.size ≤ w2.heap.size from G1.out.size)
  have MB := Lib.hid (show w.heap.size ≤ w3.heap.size from G3.out.size)
  clear P3 G3 S3 T1 G1
  generalize w2.heap.size = p at *
  generalize w3.heap.size = mm at *
  go_loopw [25] (fun s25 wr => PfRel w p mm m0 ls s25 wr) (fun s25 _ => m0 - (intOf s25).toNat)
  case atStart => exact S0.out
  case round =>
    obtain ⟨k, v, y, rfl, hk, hp, hm, hg⟩ := hrel
    by_cases hkn : k < m0
    · have hki : (k : Int) < (m0 : Int) := by omega
      obtain ⟨b, off, rfl, hbb, hc⟩ := H0.out.open_ (by rw [M0.out]; omega)
      obtain ⟨l, hl⟩ : ∃ l, ls[k]? = some l := ⟨_, List.getElem?_eq_getElem (by rw [M0.out]; omega)⟩
      obtain ⟨V, c, hc0, hr⟩ := hc k l hl
      have FT := Lib.hid (flat_take ls k l hl)
      have hlt := flat_le ls (k + 1)
      rw [FT.out, List.length_append] at hlt
      have LB := Lib.hid (show l.length ≤ 2000 by have := HSM.out.h2; omega)
      have LL := Lib.hid (show (fdF ⟨[], 0, false⟩ (ls.take k).flatten).1.line.length ≤ 80 from fdF_line (by simp) _)
      have ST := Lib.hid (show (fdF ⟨[], 0, false⟩ (ls.take k).flatten).1.stops ≤ 1000000000 by have h1 := fdF_stops ⟨[], 0, false⟩ (ls.take k).flatten; have e3 : (Tm.mk [] 0 false).stops = 0 := rfl; have := HSM.out.h2; omega)
      have FA := Lib.hid (show (fdF ⟨[], 0, false⟩ (ls.take (k + 1)).flatten).1 = (fdF (fdF ⟨[], 0, false⟩ (ls.take k).flatten).1 l).1 by rw [FT.out, fdF_app])
      obtain ⟨S, hS⟩ : ∃ S, S = (fdF ⟨[], 0, false⟩ (ls.take k).flatten).1 := ⟨_, rfl⟩
      rw [← hS] at hp hm LL ST FA
      have k0 : wr.cell? ⟨b, off + k, none⟩ = some (.slice V l.length c) := (World.cell?_of_block (hg.block b hbb (fun e => by cases e))).trans hc0
      obtain ⟨n, hn⟩ : ∃ n, l.length = n := ⟨_, rfl⟩
      have LN := Lib.hid hn
      rw [hn] at k0 LB
      obtain ⟨n5, hn5⟩ : ∃ x, (fdF S l).2.1.length = x := ⟨_, rfl⟩
      obtain ⟨n6, hn6⟩ : ∃ x, (List.map sb (fdF S l).2.2).length = x := ⟨_, rfl⟩
      have HN5 := Lib.hid hn5
      have HN6 := Lib.hid hn6
      have NB := Lib.hid (show n5 ≤ 1000000 ∧ n6 ≤ 1000000 by have h1 := fdF_shown LL.out l; have h2 := fdF_lines S l; rw [List.length_map] at hn6; have := LB.out; omega)
      have PP := Lib.hid hp
      have PM := Lib.hid hm
      have GR := Lib.hid hg
      have HV := Lib.hid hr
      have HVR := Lib.hid (show RB wr wr.heap.size V l c from (hr.below (below_of_none hg)).more hg.size)
      have HV4 := Lib.hid (fun (x : World) (e : wr.grownBy x none) => (hr.below (below_of_none hg)).below (below_rw e hg.size))
      have AV := Lib.hid (show ∀ a, V = some a → 0 < l.length → a.block ≠ mm from fun a ha h => by have := hr.blk a ha h; have := MB.out; omega)
      have HKN := Lib.hid hkn
      have TK0 := Lib.hid True.intro
      clear hp hm hg hr hc hbb hl hlt hc0 hn hS hn5 hn6 hk hkn
      go_wp2_with (first
        | (have hx := TK0; at_builtin; refine wpList_appB byteT rfl (.tmp 29) (.tmp 30) rfl (OwnB.new0 wr wr.heap.size _ (Nat.le_refl _)) ((HVR.out).alloc (Nat.le_refl _) _) (by first | rfl | go_simp) (by rw [LN.out]; first | rfl | go_simp) (by simp; rw [LN.out]; have := LB.out; omega) (by rw [World.size_alloc]; omega) ?_; intro v4 w4 o4 g4 _ a4; rw [List.nil_append] at o4; obtain ⟨A4, c4, hv4, r4, -⟩ := o4.shape; rw [LN.out] at hv4; subst hv4; have O4 := Lib.hid o4; have R4 := Lib.hid r4; have G4 := Lib.hid (show wr.grownBy w4 none from grown_row (grown_alloc _ _ none) g4 (fun g hg => by simp [Value.ownBlock] at hg; omega)); clear o4 g4 a4 r4 hx TK0; have TK1 := Lib.hid True.intro)
        | (have hx := TK1; go_at_call 10; refine (feed_any (PP.out.made G4.out) (by have := PP.out.lt; have := G4.out.size; omega) _ l n c4 LN.out R4.out ((PP.out).apart (fun g hg => (O4.out.lt g hg).1) l) (by have := LB.out; omega) LL.out ST.out).mono ?_; rintro e w5 ⟨v5, sv, lv, rfl, p5, o5, s5, m5, n5', a5⟩; obtain ⟨A5, c5, rfl, r5, -⟩ := o5.shape; obtain ⟨A6, c6, rfl, r6, -⟩ := s5.shape; rw [HN5.out] at o5 a5 ⊢; rw [HN6.out] at s5 ⊢; have P5 := Lib.hid p5; have O5 := Lib.hid o5; have S5 := Lib.hid s5; have M5 := Lib.hid m5; have AP5 := Lib.hid a5; have Z5 := Lib.hid (show w4.heap.size ≤ w5.heap.size from m5.size); have RM5 := Lib.hid ((PM.out.mod' (Mod.made (S := rdS p v) G4.out) (fun e => by rcases e with e | e; exact PNE.out e.symm; exact PP.out.2.2.ne_cells PM.out.1 (by decide) e)).mod' m5 (fun e => by rcases e with e | e; exact PNE.out e.symm; exact PP.out.2.2.ne_cells PM.out.1 (by decide) e)); have RV6 := Lib.hid (show RB w5 w.heap.size V l c from (RB.mod (HV4.out w4 G4.out) m5 (Nat.le_trans GR.out.size G4.out.size) (fun i hi e => by rcases e with e | e; have := PB.out; omega; have := (PP.out.vlt i e).1; have := PB.out; omega))); have RV5 := Lib.hid (show RB w5 w5.heap.size V l c from RV6.out.more (Nat.le_trans GR.out.size (Nat.le_trans G4.out.size m5.size))); have GW5 := Lib.hid (show w.grownBy w5 none from none_feed (grown_trans' GR.out G4.out) (PP.out.made G4.out) PB.out m5); have O45 := Lib.hid (OwnB.mod O4.out m5 (fun g hg e => by have h1 := (O4.out.lt g hg).1; rcases e with e | e; have := PP.out.lt.2; omega; have := (PP.out.vlt g e).2.1; omega)); clear p5 o5 s5 m5 n5' a5 r5 r6 hx TK1; have TK2 := Lib.hid True.intro)
        | (have hx := TK2; go_at_call 11; refine (rfeed_any w5 mm _ y RM5.out V l n c LN.out RV5.out AV.out (by have := LB.out; omega) LL.out ST.out).mono ?_; rintro e w6 ⟨lm, rfl, ⟨y6, q6⟩, s6, g6⟩; obtain ⟨A7, c7, rfl, r7, -⟩ := s6.shape; rw [HN6.out] at s6 ⊢; have Q6 := Lib.hid q6; have S6 := Lib.hid s6; have G6 := Lib.hid g6; clear q6 s6 g6 r7 hx TK2))
      have P6 := Lib.hid (P5.out.mod (Mod.of_grown G6.out) (fun e => by injection e with e; exact PNE.out e) (fun g hg e => by injection e with e; subst e; exact P5.out.2.2.ne_cells RM5.out.1 (by decide) hg))
      have O6 := Lib.hid (OwnB.mod O5.out (Mod.of_grown G6.out) (fun g hg e => by injection e with e; subst e; exact O5.out.ne_cells RM5.out.1 (by decide) hg))
      have L6 := Lib.hid (OwnS.mod S5.out (Mod.of_grown G6.out) (fun g hg e => by injection e with e; subst e; exact S5.out.ne_cells RM5.out.1 (by decide) hg))
      have I6 := Lib.hid (OwnB.mod O45.out (Mod.of_grown G6.out) (fun g hg e => by injection e with e; subst e; exact O45.out.ne_cells RM5.out.1 (by decide) hg))
      have kml : w6.cell? ⟨mm, 0, none⟩ = some (.string (sb (fdF S l).1.line)) := Q6.out.1.at_ rfl
      have kms : w6.cell? ⟨mm, 2, none⟩ = some (.int .i64 ((fdF S l).1.stops : Int)) := Q6.out.1.at_ rfl
      have R5 := Lib.hid (show RB w6 w6.heap.size A5 (fdF S l).2.1 c5 by obtain ⟨_, _, e, h, -⟩ := O6.out.shape; injection e with e1 e2 e3; subst e1 e3; exact h)
      have R6 := Lib.hid (show RS w6 w6.heap.size A6 ((fdF S l).2.2.map sb) c6 by obtain ⟨_, _, e, h, -⟩ := L6.out.shape; injection e with e1 e2 e3; subst e1 e3; exact h)
      have R7 := Lib.hid (show RS w6 w6.heap.size A7 ((fdF S l).2.2.map sb) c7 by obtain ⟨_, _, e, h, -⟩ := S6.out.shape; injection e with e1 e2 e3; subst e1 e3; exact h)
      have R4' := Lib.hid (show RB w6 w6.heap.size A4 l c4 by obtain ⟨_, _, e, h, -⟩ := I6.out.shape; injection e with e1 e2 e3; subst e1 e3; exact h)
      have hcv1 : ∀ q, (convert 30 9 (.slice A5 n5 c5)).run Try.prog (w6.drewN q) = .ok (.string (sb (fdF S l).2.1)) (w6.drewN q) := fun q => by rw [← HN5.out]; exact run_strB byteT strTy (R5.out.drewN q)
      have hcv2 : ∀ q, (convert 30 9 (.slice A4 n c4)).run Try.prog (w6.drewN q) = .ok (.string (sb l)) (w6.drewN q) := fun q => by rw [← LN.out]; exact run_strB byteT strTy (R4'.out.drewN q)
      have hcv3 : ∀ q, (convert 30 9 (.slice V n c)).run Try.prog (w6.drewN q) = .ok (.string (sb l)) (w6.drewN q) := fun q => by rw [← LN.out]; exact run_strB byteT strTy ((RB.row RV6.out G6.out (Nat.le_trans GR.out.size (Nat.le_trans G4.out.size Z5.out)) (fun g hg => by injection hg with hg; have := MB.out; omega)).drewN q)
      have HSA := Lib.hid (fun q => same_true (w6.drewN q) A6 A7 ((fdF S l).2.2.map sb) n6 c6 c7 _ _ HN6.out R6.out R7.out (by have := NB.out; omega))
      have HLI := Lib.hid (fun q => line_any (w := w6.drewN q) (P6.out.made (grown_drewN (World.grownBy.refl _ _) q)))
      have HSO := Lib.hid (fun q => stops_any (w := w6.drewN q) (P6.out.made (grown_drewN (World.grownBy.refl _ _) q)))
      obtain ⟨sL, hsL⟩ : ∃ x, sb (fdF S l).1.line = x := ⟨_, rfl⟩
      obtain ⟨sS, hsS⟩ : ∃ x, (fdF S l).1.stops = x := ⟨_, rfl⟩
      obtain ⟨sT, hsT⟩ : ∃ x, sb (fdF S l).2.1 = x := ⟨_, rfl⟩
      rw [hsL] at kml HLI
      rw [hsS] at kms HSO
      rw [hsT] at hcv1 ⊢
      clear hsL hsS hsT
      go_wp2
      go_quiet ((first | (go_at_call 12; with_reducible exact Calls.quiet_of (HSA.out _)) | (go_at_call 13; with_reducible exact Calls.quiet_of_same (HLI.out _)) | (go_at_call 14; with_reducible exact Calls.quiet_of_same (HSO.out _))))
      obtain ⟨W, hW⟩ : ∃ x, w6.drewN nq = x := ⟨_, rfl⟩
      have PW := Lib.hid (show PT W p p v5 (fdF S l).1 by rw [← hW]; exact P6.out.made (grown_drewN (World.grownBy.refl _ _) nq))
      have QW := Lib.hid (show RP W mm (fdF S l).1 y6 by rw [← hW]; exact Q6.out)
      have OW := Lib.hid (show OwnB W w4.heap.size 5 (.slice A5 n5 c5) (fdF S l).2.1 by rw [← hW]; exact O6.out)
      have LW := Lib.hid (show OwnS W w4.heap.size 9 (.slice A6 n6 c6) ((fdF S l).2.2.map sb) by rw [← hW]; exact L6.out)
      have GW := Lib.hid (show w.grownBy W none by rw [← hW]; exact grown_drewN (grown_row GW5.out G6.out (fun g hg => by injection hg with hg; have := MB.out; omega)) nq)
      have hkw : IntKind.i64.wrap ((k : Int) + 1) = ((k + 1 : Nat) : Int) := by have := HKN.out; simp [IntKind.wrap, IntKind.bits, IntKind.signed]; omega
      rw [hW]
      clear hW kml kms hcv1 hcv2 hcv3 HSA HLI HSO R5 R6 R7 R4' I6 O6 L6 P6 Q6 S6 G6 O5 S5 P5 M5 O45 O4 R4 RV5 RV6 RM5 Z5 GW5 k0
      go_wp2
      obtain ⟨wo, hwo⟩ : ∃ wo, wo = wr := ⟨_, rfl⟩
      subst hwo
      go_loopw [81] (fun s81 wq => ∃ i : Nat, s81 = .int .i64 i ∧ i ≤ n5 ∧ Mod (fun k => (Value.slice A5 n5 c5).ownBlock = some k) W wq ∧ (∀ g, (Value.slice A5 n5 c5).ownBlock = some g → ∃ cs, CB wq g 5 cs ∧ cs.length = c5)) (fun s81 _ => n5 - (intOf s81).toNat)
      case atStart => exact ⟨0, rfl, Nat.zero_le _, Mod.refl _ _, fun g hg => (own_CB OW.out g hg).2.2⟩
      case round =>
        obtain ⟨i, rfl, hi, hM, hI⟩ := hrel
        by_cases hil : i < n5
        · obtain ⟨g, hg⟩ : ∃ g, (Value.slice A5 n5 c5).ownBlock = some g := by
            rcases A_of OW.out with ⟨_, h⟩ | ⟨g, h⟩
            · omega
            · exact ⟨g, h⟩
          obtain ⟨hA, hnc, -⟩ := own_CB OW.out g hg
          obtain ⟨cs, hC, hcl⟩ := hI g hg
          have hii : (i : Int) < (n5 : Int) := by omega
          have C8 := Lib.hid hC
          have CL := Lib.hid (show i < cs.length by omega)
          have M8 := Lib.hid hM
          have HG := Lib.hid hg
          have HCL := Lib.hid hcl
          have hiw : IntKind.i64.wrap ((i : Int) + 1) = ((i + 1 : Nat) : Int) := by have := NB.out; simp [IntKind.wrap, IntKind.bits, IntKind.signed]; omega
          have HII := Lib.hid hi
          subst hA
          clear hC hcl hM hI hg hi hnc
          go_wp2_with (refine wpList_setC (off := i) sz8 rfl (.tmp 86) (.const (.int .u8 238)) rfl .u8 238 C8.out CL.out (by first | rfl | go_simp) rfl ?_; intro w8 h8 g8; have D8 := Lib.hid h8; have E8 := Lib.hid g8; clear h8 g8)
          go_wp2
          go_roundw
          case rel => exact ⟨i + 1, by first | rfl | go_num, by omega, M8.out.grown E8.out (fun z hz _ => by injection hz with hz; subst hz; exact HG.out), fun g' hg' => by
            have e : g' = g := by have := HG.out; rw [hg'] at this; injection this
            subst e
            exact ⟨_, D8.out, by rw [List.length_set]; exact HCL.out⟩⟩
          case measure => simp [intOf]; omega
        · obtain rfl : i = n5 := by omega
          have hii : ¬ (i : Int) < (i : Int) := by omega
          have M8 := Lib.hid hM
          clear hM hI hi hil
          obtain ⟨W2, hW2⟩ : ∃ x, x = wr := ⟨_, rfl⟩
          subst hW2
          have PW2 := Lib.hid (PW.out.mod M8.out (fun e => OW.out.ne_cells PW.out.2.1 (by decide) e) (fun g hg e => AP5.out g hg e))
          have QW2 := Lib.hid (QW.out.mod' M8.out (fun e => OW.out.ne_cells QW.out.1 (by decide) e))
          have LW2 := Lib.hid (OwnS.mod LW.out M8.out (fun g hg e => own_nes OW.out LW.out g e hg))
          have GW2 := Lib.hid (none_mod2 GW.out M8.out (fun g hg => by have := (OW.out.lt g hg).1; have := GR.out.size; have := G4.out.size; omega))
          clear M8 PW QW LW GW OW
          go_wp2
          go_loopw [90] (fun s90 wq => ∃ i : Nat, s90 = .int .i64 i ∧ i ≤ n6 ∧ Mod (fun k => (Value.slice A6 n6 c6).ownBlock = some k) W2 wq ∧ (∀ g, (Value.slice A6 n6 c6).ownBlock = some g → ∃ cs, CB wq g 9 cs ∧ cs.length = c6)) (fun s90 _ => n6 - (intOf s90).toNat)
          case atStart => exact ⟨0, rfl, Nat.zero_le _, Mod.refl _ _, fun g hg => (own_CBs LW2.out g hg).2.2⟩
          case round =>
            obtain ⟨i, rfl, hi, hM, hI⟩ := hrel
            by_cases hil : i < n6
            · obtain ⟨g, hg⟩ : ∃ g, (Value.slice A6 n6 c6).ownBlock = some g := by
                rcases A_of LW2.out with ⟨_, h⟩ | ⟨g, h⟩
                · omega
                · exact ⟨g, h⟩
              obtain ⟨hA, hnc, -⟩ := own_CBs LW2.out g hg
              obtain ⟨cs, hC, hcl⟩ := hI g hg
              have hii : (i : Int) < (n6 : Int) := by omega
              have C8 := Lib.hid hC
              have CL := Lib.hid (show i < cs.length by omega)
              have M8 := Lib.hid hM
              have HG := Lib.hid hg
              have HCL := Lib.hid hcl
              have hiw : IntKind.i64.wrap ((i : Int) + 1) = ((i + 1 : Nat) : Int) := by have := NB.out; simp [IntKind.wrap, IntKind.bits, IntKind.signed]; omega
              have HII := Lib.hid hi
              subst hA
              clear hC hcl hM hI hg hi hnc
              go_wp2_with (refine wpList_storeC (off := i) (p := [.string ⟨#[63]⟩]) szStr rfl (.tmp 95) (.const (.string ⟨#[63]⟩)) rfl (.string ⟨#[63]⟩) rfl (fun u hu => by rw [List.mem_singleton.1 hu]; rfl) C8.out rfl (by have := CL.out; simp; omega) (by first | rfl | go_simp) rfl ?_; intro w8 h8 g8; have D8 := Lib.hid h8; have E8 := Lib.hid g8; clear h8 g8)
              go_wp2
              go_roundw
              case rel => exact ⟨i + 1, by first | rfl | go_num, by omega, M8.out.grown E8.out (fun z hz _ => by injection hz with hz; subst hz; exact HG.out), fun g' hg' => by
                have e : g' = g := by have := HG.out; rw [hg'] at this; injection this
                subst e
                exact ⟨_, D8.out, by rw [over_length _ _ _ (by have := CL.out; simp; omega)]; exact HCL.out⟩⟩
              case measure => simp [intOf]; omega
            · obtain rfl : i = n6 := by omega
              have hii : ¬ (i : Int) < (i : Int) := by omega
              have M8 := Lib.hid hM
              clear hM hI hi hil
              have PW3 := Lib.hid (PW2.out.mod M8.out (fun e => LW2.out.ne_cells PW2.out.2.1 (by decide) e) (fun g hg e => own_nes PW2.out.2.2 LW2.out g hg e))
              have QW3 := Lib.hid (QW2.out.mod' M8.out (fun e => LW2.out.ne_cells QW2.out.1 (by decide) e))
              have GW3 := Lib.hid (none_mod2 GW2.out M8.out (fun g hg => by have := (World.ownsRow.lt LW2.out g hg).1; have := GR.out.size; have := G4.out.size; omega))
              clear M8 PW2 QW2 LW2 GW2
              go_wp2
              go_roundw
              case rel => exact ⟨k + 1, v5, y6, by first | rfl | go_num, by have := HKN.out; omega, by rw [FA.out]; exact PW3.out, by rw [FA.out]; exact QW3.out, GW3.out⟩
              case measure => have := HKN.out; simp [intOf]; omega
    · obtain rfl : k = m0 := by omega
      have hki : ¬ (k : Int) < (k : Int) := by omega
      have GR := Lib.hid hg
      clear hp hm hg
      go_wp2
      go_ret
      exact ⟨rfl, below_of_none GR.out⟩
end Go.Proofs.Ytbkaabimafipoaa
