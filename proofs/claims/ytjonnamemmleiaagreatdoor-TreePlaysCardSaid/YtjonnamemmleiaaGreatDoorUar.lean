/- The walk of TreePlays. -/
import Derived.Test.YtjonnamemmleiaaGreatDoorUaq
namespace Go.Proofs.YtjonnamemmleiaaGreatDoor
open Go.RowKit Go.Maps Go.WideMaps

set_option maxRecDepth 10000 in
set_option maxHeartbeats 1000000 in
theorem tnew2 (w : World) : Calls Tryz.prog 15 #[] w fun e w' => ∃ tb mb nd, e = .returned (.pointer (some ⟨tb, 0, none⟩)) ∧ TS w' tb mb [([47], nd)] ∧ nd.dir = true ∧ nd.owner = rootB ∧ nd.mode = 61 ∧ nd.data = .slice none 0 0 ∧ w.grownBy w' none ∧ w.heap.size ≤ tb ∧ w.heap.size ≤ mb ∧ w.heap.size ≤ nd.blk := by
  have hm0 := MT.made (P := Tryz.prog) (k := 9) (kv := kS) (vv := vN) w
  have hm1 := hm0.alloc (.cells (nodeC ⟨#[47]⟩ true rootB 61 (.slice none 0 0)).toArray 63)
  have H := Lib.hid hm1
  clear hm0 hm1
  have hmm := @run_makeMap Tryz.prog
  go_enter Tryz.func15, Tryz.ntmps15
  go_wp2_with (refine wpList_insM keyedS kS_inj rfl (.tmp 1) (.const (.string ⟨#[47]⟩)) (.tmp 3) rfl Tryz.underlying94 H.out (by simp [maxLen]) rfl [47] ⟨w.heap.size + 1, true, rootB, 61, .slice none 0 0⟩ (okS _ (by simp)) rfl rfl ?_; intro w3 h3 g3; have H3 := Lib.hid h3; have G3 := Lib.hid g3.grown; clear h3 g3)
  go_ret
  have hc0 : CB ((w.alloc (.map #[] 0)).alloc (.cells (nodeC ⟨#[47]⟩ true rootB 61 (.slice none 0 0)).toArray 63)) (w.heap.size + 1) 63 (nodeC ⟨#[47]⟩ true rootB 61 (.slice none 0 0)) := by
    have := CB.new (w.alloc (.map #[] 0)) 63 (nodeC ⟨#[47]⟩ true rootB 61 (.slice none 0 0))
    rw [World.size_alloc] at this
    exact this
  have hc3 := hc0.grown G3.out (by omega)
  have hs3 : w.heap.size + 2 ≤ w3.heap.size := by have := G3.out.size; simp at this; omega
  have hg : w.grownBy w3 none := none_new ((grown_alloc w (.map #[] 0) none).trans (grown_alloc _ _ none)) G3.out (Nat.le_refl _)
  refine ⟨w3.heap.size, w.heap.size, ⟨w.heap.size + 1, true, rootB, 61, .slice none 0 0⟩, rfl, ⟨⟨heap_alloc_new w3 _, H3.out.alloc _, fun q n hq => ?_⟩, fun q n q' n' hq hq' _ => ?_, fun q n hq => ?_, fun q n q' n' k hq hq' hk _ => ?_⟩, rfl, rfl, rfl, rfl, hg.trans (grown_alloc _ _ none), by omega, Nat.le_refl _, by show w.heap.size ≤ w.heap.size + 1; omega⟩
  · rw [List.mem_singleton] at hq
    cases hq
    exact ⟨hc3.alloc _, by show 61 < 64; omega⟩
  · rw [List.mem_singleton] at hq hq'
    cases hq
    cases hq'
    rfl
  · rw [List.mem_singleton] at hq
    cases hq
    exact ⟨[], OwnB.nil_ _ _ _, by simp⟩
  · rw [List.mem_singleton] at hq
    cases hq
    simp [Value.ownBlock] at hk

theorem eight_of (k : Int) : bits .and .i64 k 7 = 0 ∨ bits .and .i64 k 7 = 1 ∨ bits .and .i64 k 7 = 2 ∨ bits .and .i64 k 7 = 3 ∨ bits .and .i64 k 7 = 4 ∨ bits .and .i64 k 7 = 5 ∨ bits .and .i64 k 7 = 6 ∨ bits .and .i64 k 7 = 7 := by
  obtain ⟨q, hq, hb⟩ := and_low k 3 (by decide)
  replace hb : bits .and .i64 k 7 = (q : Int) := hb
  rw [hb]
  have : q < 8 := hq
  omega
theorem aggOp : AggT Tryz.prog 31 6 := ⟨fun _ => by kernel_rfl, by kernel_rfl⟩
set_option maxRecDepth 20000 in
set_option maxHeartbeats 16000000 in
theorem walk_TreePlays (w : World) (A : Option Addr) (os : List Op8) (cap : Nat) (hr : RO w w.heap.size A os cap) (_hok : ∀ o ∈ os, o.ok) :
    Calls Tryz.prog 3 #[.slice A os.length cap] w fun e w' => e = .returned (.bool true) ∧ Below w.heap.size w w' := by
  obtain ⟨n1, hn1⟩ : ∃ n, os.length = n := ⟨_, rfl⟩
  rw [hn1]
  have HR := Lib.hid hr
  have HN1 := Lib.hid hn1
  have hl1 : n1 ≤ 9223372036854775807 := by have := hr.1; have := hr.2.1; unfold maxLen at this; omega
  obtain ⟨g1, hg1⟩ : ∃ g, great8 os = g := ⟨_, rfl⟩
  have HG1 := Lib.hid hg1
  clear hr _hok hn1 hg1
  cases g1 with
  | true =>
    go_enter Tryz.func3, Tryz.ntmps3
    go_wp2_with (first
      | (go_at_call 13; refine (speaks_any _).mono ?_; rintro e w1 ⟨rfl, g⟩; have G0 := Lib.hid g; clear g)
      | (go_at_call 14; refine (great_any _ A os n1 cap HN1.out ((HR.out.below (below_of_none G0.out)).more G0.out.size)).mono ?_; rw [HG1.out]; rintro e wa ⟨rfl, g⟩; have G1 := Lib.hid (grown_trans' G0.out g); clear g))
    go_ret
    exact ⟨rfl, below_of_none G1.out⟩
  | false =>
    have SM1 := Lib.hid (great8_no HG1.out).2
    go_enter Tryz.func3, Tryz.ntmps3
    go_wp2_with (first
      | (go_at_call 13; refine (speaks_any _).mono ?_; rintro e w1 ⟨rfl, g⟩; have G0 := Lib.hid g; clear g)
      | (go_at_call 14; refine (great_any _ A os n1 cap HN1.out ((HR.out.below (below_of_none G0.out)).more G0.out.size)).mono ?_; rw [HG1.out]; rintro e wa ⟨rfl, g⟩; have G1 := Lib.hid (grown_trans' G0.out g); clear g)
      | (go_at_call 15; refine (tnew2 _).mono ?_; rintro e w2 ⟨tb, mb, ⟨b0, d0, o0, m0, dt0⟩, rfl, t1, rfl, rfl, rfl, rfl, g2, b1, b2, b3⟩; have T1 := Lib.hid t1; have G2 := Lib.hid g2; have BB := Lib.hid (And.intro b1 (And.intro b2 b3)); clear t1 g2 b1 b2 b3)
      | (go_at_call 16; refine (rnew_any _).mono ?_; rintro e w3 ⟨rb, v0, rfl, r2, g3, hb, hv⟩; have P3 := Lib.hid (pr_new G1.out T1.out G2.out BB.out.1 BB.out.2.1 BB.out.2.2 r2 g3 hb hv); clear r2 g3 hb hv))
    go_loopw [21] (fun i wr => ∃ (k : Nat) (M : List (List UInt8 × Nd)) (v : Value) (N : List (List UInt8 × Nd)), i = .int .i64 k ∧ k ≤ n1 ∧ Hid (PR w wr tb mb M rb v N)) (fun i _ => n1 - (intOf i).toNat)
    case atStart => exact ⟨0, _, v0, _, rfl, Nat.zero_le _, P3.out⟩
    case round =>
      obtain ⟨k, M, v, N, rfl, hk, HPR⟩ := hrel
      by_cases hlt : k < n1
      · have hki : (k : Int) < (n1 : Int) := by omega
        obtain ⟨b, off, rfl, hb, hc⟩ := HR.out.open_ (by rw [HN1.out]; omega)
        obtain ⟨o, ho⟩ : ∃ o, os[k]? = some o := ⟨_, List.getElem?_eq_getElem (by rw [HN1.out]; omega)⟩
        have hsz := SM1.out o (List.mem_of_getElem? ho)
        obtain ⟨V, c, r0, r1, r2, r3, r4, r5, hrb⟩ := hc k o ho
        have be := below_of_none HPR.out.tg.gr
        have q0 := (be.cell (p := ⟨b, off + k * 6, none⟩) hb).trans r0
        have q1 := (be.cell (p := ⟨b, off + k * 6 + 1, none⟩) hb).trans r1
        have q2 := (be.cell (p := ⟨b, off + k * 6 + 2, none⟩) hb).trans r2
        have q3 := (be.cell (p := ⟨b, off + k * 6 + 3, none⟩) hb).trans r3
        have q4 := (be.cell (p := ⟨b, off + k * 6 + 4, none⟩) hb).trans r4
        have q5 := (be.cell (p := ⟨b, off + k * 6 + 5, none⟩) hb).trans r5
        obtain ⟨ok, om, ow, opt, oo, ofb⟩ := o
        have HSZ := Lib.hid hsz
        obtain ⟨ln, hln⟩ : ∃ ln, ofb.length = ln := ⟨_, rfl⟩
        simp only at q0 q1 q2 q3 q4 q5 hrb
        rw [hln] at q5
        have HLN := Lib.hid hln
        have HRV := Lib.hid hrb
        obtain ⟨wo, hwo⟩ : ∃ x, x = wr.alloc (.cells #[.int .i64 ok, .int .i64 om, .string ow, .string opt, .string oo, .slice V ln c] 31) := ⟨_, rfl⟩
        obtain ⟨bx, hbx⟩ : ∃ x, x = wr.heap.size := ⟨_, rfl⟩
        have hcbo : CB wo bx 31 [.int .i64 ok, .int .i64 om, .string ow, .string opt, .string oo, .slice V ln c] := by rw [hwo, hbx]; exact CB.new _ _ _
        have hgo : wr.grownBy wo none := by rw [hwo]; exact grown_alloc _ _ _
        have HWO := Lib.hid hwo
        have CBO := Lib.hid hcbo
        have PRO := Lib.hid (HPR.out.grown hgo)
        have HRBO := Lib.hid (show RB wo wo.heap.size V ofb c from ((hrb.below be).more be.size).below (below_of_none hgo) |>.more hgo.size)
        obtain ⟨p, hp⟩ : ∃ p, opt.data.toList = p := ⟨_, rfl⟩
        have HP := Lib.hid hp
        have HPL := Lib.hid (show p.length ≤ 300 by rw [← hp]; exact hsz.path)
        have HOW := Lib.hid (show ow.size ≤ 100 from hsz.who)
        have HOO := Lib.hid (show oo.size ≤ 100 from hsz.own)
        have HC1 := Lib.hid (fun (wx : World) (hx : CB wx bx 31 [.int .i64 ok, .int .i64 om, .string ow, .string opt, .string oo, .slice V ln c]) => hx.at_ (i := 1) (v := .int .i64 om) rfl)
        have HC2 := Lib.hid (fun (wx : World) (hx : CB wx bx 31 [.int .i64 ok, .int .i64 om, .string ow, .string opt, .string oo, .slice V ln c]) => hx.at_ (i := 2) (v := .string ow) rfl)
        have HC3 := Lib.hid (fun (wx : World) (hx : CB wx bx 31 [.int .i64 ok, .int .i64 om, .string ow, .string opt, .string oo, .slice V ln c]) => hx.at_ (i := 3) (v := .string opt) rfl)
        have HC4 := Lib.hid (fun (wx : World) (hx : CB wx bx 31 [.int .i64 ok, .int .i64 om, .string ow, .string opt, .string oo, .slice V ln c]) => hx.at_ (i := 4) (v := .string oo) rfl)
        have HC5 := Lib.hid (fun (wx : World) (hx : CB wx bx 31 [.int .i64 ok, .int .i64 om, .string ow, .string opt, .string oo, .slice V ln c]) => hx.at_ (i := 5) (v := .slice V ln c) rfl)
        have HBX := Lib.hid hbx
        have HWZ := Lib.hid (show wr.heap.size + 1 = wo.heap.size by rw [hwo, World.size_alloc])
        have HBW := Lib.hid hb
        clear hc r0 r1 r2 r3 r4 r5 hrb be ho hln hb hwo hcbo hgo hp hsz hbx
        rcases eight_of ok with hz | hz | hz | hz | hz | hz | hz | hz
        · go_wp2_with (first
                      | (at_builtin
                         rw [show wr.alloc (.cells #[.int .i64 ok, .int .i64 om, .string ow, .string opt, .string oo, .slice V ln c] 31) = wo from HWO.out.symm, HWZ.out, ← HBX.out]
                         refine wpList_appB byteT rfl (.tmp 25) (.tmp 27) rfl (OwnB.new0 wo wo.heap.size 5 (Nat.le_refl _)) (HRBO.out.alloc (Nat.le_refl _) _) (by first | rfl | go_simp) (by rw [HLN.out]; first | rfl | go_simp) (by have h9 : ofb.length ≤ 1500 := HSZ.out.fb; simp; omega) (by rw [World.size_alloc]; omega) ?_
                         intro v9 w9 o9 g9 _ a9
                         rw [List.nil_append] at o9
                         have G9 := Lib.hid (fresh_grown rfl (World.grownBy.refl wo none) g9)
                         obtain ⟨A9, c9, hv9, r9, -⟩ := o9.shape
                         rw [HLN.out] at hv9
                         subst hv9
                         have O9 := Lib.hid o9
                         have RB9 := Lib.hid (show RB w9.drew w9.drew.heap.size A9 ofb c9 from r9.drew)
                         have PRd := Lib.hid (show PR w w9.drew tb mb M rb v N from PRO.out.grown (grown_drew G9.out))
                         have hS9 : CB w9.drew bx 31 [.int .i64 ok, .int .i64 om, .string ow, .string opt, .string oo, .slice V ln c] := (CBO.out.kept G9.out).drew
                         have c0 := (CBO.out.kept G9.out).at_ (i := 0) (v := .int .i64 ok) rfl
                         clear o9 g9 a9 r9))
          refine helds_begin (fun W => CB W bx 31 [.int .i64 ok, .int .i64 om, .string ow, .string opt, .string oo, .slice V ln c]) (by kernel_rfl) (by assumption) (fun _ => ?_)
          refine helds_take (i := 0) (d := some 53) (v := ?vUR0_1) (by assumption) rfl rfl (by kernel_rfl) (fun _ _ _ h => h) ?yUR0_1 ?_; case yUR0_1 => (refine Or.inl ⟨rfl, fun wx hS => ?_⟩; go_simp; try with_reducible rfl)
          try simp only [Act.put, List.setIfInBounds_toArray, List.set_cons_zero, List.set_cons_succ]
          refine helds_take (i := 1) (d := some 54) (v := ?vUR0_2) (by assumption) rfl rfl (by kernel_rfl) (fun _ _ _ h => h) ?yUR0_2 ?_; case yUR0_2 => (refine Or.inl ⟨rfl, fun wx hS => ?_⟩; go_simp; try with_reducible rfl)
          try simp only [Act.put, List.setIfInBounds_toArray, List.set_cons_zero, List.set_cons_succ]
          refine helds_take (i := 2) (d := some 55) (v := ?vUR0_3) (by assumption) rfl rfl (by kernel_rfl) (fun _ _ _ h => h) ?yUR0_3 ?_; case yUR0_3 => (refine Or.inl ⟨rfl, fun wx hS => ?_⟩; have hk := HC2.out wx hS; go_simp; try with_reducible rfl)
          try simp only [Act.put, List.setIfInBounds_toArray, List.set_cons_zero, List.set_cons_succ]
          refine helds_take (i := 3) (d := some 56) (v := ?vUR0_4) (by assumption) rfl rfl (by kernel_rfl) (fun _ _ _ h => h) ?yUR0_4 ?_; case yUR0_4 => (refine Or.inl ⟨rfl, fun wx hS => ?_⟩; go_simp; try with_reducible rfl)
          try simp only [Act.put, List.setIfInBounds_toArray, List.set_cons_zero, List.set_cons_succ]
          refine helds_take (i := 4) (d := some 57) (v := ?vUR0_5) (by assumption) rfl rfl (by kernel_rfl) (fun _ _ _ h => h) ?yUR0_5 ?_; case yUR0_5 => (refine Or.inl ⟨rfl, fun wx hS => ?_⟩; have hk := HC3.out wx hS; go_simp; try with_reducible rfl)
          try simp only [Act.put, List.setIfInBounds_toArray, List.set_cons_zero, List.set_cons_succ]
          refine helds_take (i := 6) (d := some 59) (v := ?vUR0_6) (by assumption) rfl rfl (by kernel_rfl) (fun _ _ _ h => h) ?yUR0_6 ?_; case yUR0_6 => (refine Or.inl ⟨rfl, fun wx hS => ?_⟩; go_simp; try with_reducible rfl)
          try simp only [Act.put, List.setIfInBounds_toArray, List.set_cons_zero, List.set_cons_succ]
          refine helds_take (i := 7) (d := some 60) (v := ?vUR0_7) (by assumption) rfl rfl (by kernel_rfl) (fun _ _ _ h => h) ?yUR0_7 ?_; case yUR0_7 => (refine Or.inl ⟨rfl, fun wx hS => ?_⟩; go_simp; try with_reducible rfl)
          try simp only [Act.put, List.setIfInBounds_toArray, List.set_cons_zero, List.set_cons_succ]
          refine helds_take (i := 8) (d := some 61) (v := ?vUR0_8) (by assumption) rfl rfl (by kernel_rfl) (fun _ _ _ h => h) ?yUR0_8 ?_; case yUR0_8 => (refine Or.inl ⟨rfl, fun wx hS => ?_⟩; have hk := HC2.out wx hS; go_simp; try with_reducible rfl)
          try simp only [Act.put, List.setIfInBounds_toArray, List.set_cons_zero, List.set_cons_succ]
          refine helds_take (i := 9) (d := some 62) (v := ?vUR0_9) (by assumption) rfl rfl (by kernel_rfl) (fun _ _ _ h => h) ?yUR0_9 ?_; case yUR0_9 => (refine Or.inl ⟨rfl, fun wx hS => ?_⟩; go_simp; try with_reducible rfl)
          try simp only [Act.put, List.setIfInBounds_toArray, List.set_cons_zero, List.set_cons_succ]
          refine helds_take (i := 10) (d := some 63) (v := ?vUR0_10) (by assumption) rfl rfl (by kernel_rfl) (fun _ _ _ h => h) ?yUR0_10 ?_; case yUR0_10 => (refine Or.inl ⟨rfl, fun wx hS => ?_⟩; have hk := HC3.out wx hS; go_simp; try with_reducible rfl)
          try simp only [Act.put, List.setIfInBounds_toArray, List.set_cons_zero, List.set_cons_succ]
          refine helds_one (i := 5) rfl (by kernel_rfl) rfl (fun K hK => ?_)
          refine wp_callU (d := some 58) (f := 17) (args := #[.pointer (some ⟨tb, 0, none⟩), .string ow, .string opt]) rfl (by first | rfl | go_simp) ?_
          refine (p_remove PRd.out.tg PRd.out.snd ow opt p HP.out HPL.out).mono ?_
          rintro e w10 ⟨rfl, dd⟩
          refine ⟨_, rfl, ?_⟩
          have DD := Lib.hid dd
          have hS10 : CB w10 bx 31 [.int .i64 ok, .int .i64 om, .string ow, .string opt, .string oo, .slice V ln c] := dd.cb PRd.out.tg.ts hS9 (by decide)
          clear dd
          refine hK.out _ _ (by assumption) (fun _ => ?_)
          clear hK K
          try simp only [Act.put, List.setIfInBounds_toArray, List.set_cons_zero, List.set_cons_succ]
          refine helds_one (i := 11) rfl (by kernel_rfl) rfl (fun K hK => ?_)
          refine wp_callU (d := some 64) (f := 18) (args := #[.pointer (some ⟨rb, 0, none⟩), .string ow, .string opt]) rfl (by first | rfl | go_simp) ?_
          refine (q_remove PRd.out ow opt HP.out HPL.out DD.out).mono ?_
          rintro e w11 ⟨rfl, dd2⟩
          refine ⟨_, rfl, ?_⟩
          obtain ⟨M2, v2, N2, nx⟩ := dd2
          have hS11 : CB w11 bx 31 [.int .i64 ok, .int .i64 om, .string ow, .string opt, .string oo, .slice V ln c] := nx.cb _ _ _ hS9 (by decide) (by decide)
          have NX := Lib.hid nx
          have CB11 := Lib.hid hS11
          clear nx
          refine hK.out _ _ (by assumption) (fun _ => ?_)
          clear hK K
          try simp only [Act.put, List.setIfInBounds_toArray, List.set_cons_zero, List.set_cons_succ]
          refine helds_take (i := 12) (d := some 7) (v := ?vUR0_11) (by assumption) rfl rfl (by kernel_rfl) (fun _ _ _ h => h) ?yUR0_11 ?_; case yUR0_11 => (refine Or.inl ⟨rfl, fun wx hS => ?_⟩; go_simp; try with_reducible rfl)
          try simp only [Act.put, List.setIfInBounds_toArray, List.set_cons_zero, List.set_cons_succ]
          refine helds_take (i := 13) (d := some 8) (v := ?vUR0_12) (by assumption) rfl rfl (by kernel_rfl) (fun _ _ _ h => h) ?yUR0_12 ?_; case yUR0_12 => (refine Or.inl ⟨rfl, fun wx hS => ?_⟩; go_simp; try with_reducible rfl)
          try simp only [Act.put, List.setIfInBounds_toArray, List.set_cons_zero, List.set_cons_succ]
          refine held_end (by kernel_rfl) ?_ _
          have CB11' := CB11.out
          have O11 := Lib.hid (show OwnB w11 wo.heap.size 5 (.slice A9 ln c9) ofb from own_base (NX.out.keep _ _ (OwnB.base_ (show OwnB w9.drew wo.heap.size 5 (.slice A9 ln c9) ofb from O9.out) (Nat.zero_le _))) O9.out)
          have NB := Lib.hid (show ∀ g, (Value.slice A9 ln c9).ownBlock = some g → NoB g M2 ∧ NoB g N2 ∧ w.heap.size ≤ g from fun g hg => by
            have h1 := O9.out.lt g hg
            have h2 := PRO.out.fresh h1.1
            have h3 := NX.out.nob g h1.2 h2.1 h2.2
            exact ⟨h3.1, h3.2, Nat.le_trans PRO.out.tg.gr.size h1.1⟩)
          have P11 := Lib.hid NX.out.pr
          clear CB11'
          have hlnb : ln ≤ 1500 := by rw [← HLN.out]; exact HSZ.out.fb
          go_wp2
          go_loopw [10, 122] (fun _ iv wr => ∃ (i : Nat) (l : List UInt8), iv = .int .i64 i ∧ i ≤ ln ∧ Hid (l.length = ln) ∧ Hid (OwnB wr wo.heap.size 5 (.slice A9 ln c9) l) ∧ Hid (PR w wr tb mb M2 rb v2 N2) ∧ Hid (CB wr bx 31 [.int .i64 ok, .int .i64 om, .string ow, .string opt, .string oo, .slice V ln c])) (fun _ iv _ => ln - (intOf iv).toNat)
          case atStart => exact ⟨0, ofb, rfl, Nat.zero_le _, HLN.out, O11.out, P11.out, CB11.out⟩
          case round =>
            obtain ⟨i, l, rfl, hi, HL, HO, HPI, HCI⟩ := hrel
            by_cases hlt2 : i < ln
            · have hii : (i : Int) < (ln : Int) := by omega
              obtain ⟨g, cs, hA, hcb, hic, hgb, hset⟩ := spoil_at HO.out HL.out hlt2
              subst hA
              have HSET := Lib.hid hset
              have HCB := Lib.hid hcb
              have q0 := hcb.at_ (i := i) (List.getElem?_eq_getElem hic)
              have f0 := hcb.free i
              have NB2 := Lib.hid (NB.out g rfl)
              clear hset hcb hgb
              go_wp2
              go_roundw
              case rel => exact ⟨i + 1, l.set i 238, by go_num, by omega, by rw [List.length_set]; exact HL.out, HSET.out _ (HCB.out.set_ i _), HPI.out.spoil NB2.out.1 NB2.out.2.1 HCB.out (grownC_set _ _ _ _) NB2.out.2.2, HCI.out.grown (grownC_set _ _ _ _) (cb_neT HCI.out HCB.out (by decide))⟩
              case measure => simp [intOf]; omega
            · have hii : ¬ (i : Int) < (ln : Int) := by omega
              obtain ⟨w13, hw13⟩ : ∃ x, x = wr := ⟨_, rfl⟩
              rw [← hw13] at HPI HCI ⊢
              clear hw13
              have P13 := Lib.hid HPI.out
              have CB13 := Lib.hid HCI.out
              obtain ⟨nn, hnn⟩ : ∃ nn, N2.length = nn := ⟨_, rfl⟩
              have HNN := Lib.hid hnn
              obtain ⟨A2, c2, hv2, -⟩ := P13.out.rt.open_
              rw [hnn] at hv2
              have HSR := Lib.hid (fun (wx : World) (hx : w13.grownBy wx none) => sr_of (show RowX wx 0 63 5 (.slice A2 nn c2) (N2.map ndC) by have h := (P13.out.grown hx).rt.row; rw [hv2] at h; exact h))
              have HCT := Lib.hid (fun (wx : World) (hx : w13.grownBy wx none) => (P13.out.grown hx).rt.top.at_ (i := 0) (v := .slice A2 nn c2) (by rw [← hv2]; rfl))
              clear hnn hv2 HO HL HPI HCI
              go_wp2
              refine helds_begin (fun W => w13.grownBy W none) (by kernel_rfl) (drewN_grown w13 1) (fun _ => ?_)
              refine helds_take (i := 0) (d := some 129) (v := ?vUR0Z_1) (by assumption) rfl rfl (by kernel_rfl) (fun _ _ _ h => h) ?yUR0Z_1 ?_; case yUR0Z_1 => (refine Or.inl ⟨rfl, fun wx hS => ?_⟩; go_simp; try with_reducible rfl)
              try simp only [Act.put, List.setIfInBounds_toArray, List.set_cons_zero, List.set_cons_succ]
              refine helds_take (i := 1) (d := some 130) (v := ?vUR0Z_2) (by assumption) rfl rfl (by kernel_rfl) (fun _ _ _ h => h) ?yUR0Z_2 ?_; case yUR0Z_2 => (refine Or.inl ⟨rfl, fun wx hS => ?_⟩; go_simp; try with_reducible rfl)
              try simp only [Act.put, List.setIfInBounds_toArray, List.set_cons_zero, List.set_cons_succ]
              refine helds_take (i := 2) (d := some 131) (v := ?vUR0Z_3) (by assumption) rfl rfl (by kernel_rfl) (fun _ _ _ h => h) ?yUR0Z_3 ?_; case yUR0Z_3 => (refine Or.inl ⟨rfl, fun wx hS => ?_⟩; go_simp; try with_reducible rfl)
              try simp only [Act.put, List.setIfInBounds_toArray, List.set_cons_zero, List.set_cons_succ]
              refine helds_take (i := 3) (d := some 132) (v := ?vUR0Z_4) (by assumption) rfl rfl (by kernel_rfl) (fun _ _ _ h => h) ?yUR0Z_4 ?_; case yUR0Z_4 => (refine Or.inl ⟨rfl, fun wx hS => ?_⟩; go_simp; try with_reducible rfl)
              try simp only [Act.put, List.setIfInBounds_toArray, List.set_cons_zero, List.set_cons_succ]
              refine helds_take (i := 4) (d := some 133) (v := ?vUR0Z_5) (by assumption) rfl rfl (by kernel_rfl) (fun _ _ _ h => h) ?yUR0Z_5 ?_; case yUR0Z_5 => (refine Or.inl ⟨rfl, fun wx hS => ?_⟩; go_simp; try with_reducible rfl)
              try simp only [Act.put, List.setIfInBounds_toArray, List.set_cons_zero, List.set_cons_succ]
              refine helds_take (i := 5) (d := some 134) (v := ?vUR0Z_6) (by assumption) rfl rfl (by kernel_rfl) (fun _ _ _ h => h) ?yUR0Z_6 ?_; case yUR0Z_6 => (refine Or.inl ⟨rfl, fun wx hS => ?_⟩; go_simp; try with_reducible rfl)
              try simp only [Act.put, List.setIfInBounds_toArray, List.set_cons_zero, List.set_cons_succ]
              refine helds_take (i := 6) (d := some 135) (v := _) (by assumption) rfl rfl (by kernel_rfl) (fun _ _ _ h => h) (yields_loadX (p := [.int .i64 ok, .int .i64 om, .string ow, .string opt, .string oo, .slice V ln c]) (b := bx) (off := 0) aggOp (.tmp 6) rfl rfl (fun wx hS j u hj => by rw [Nat.zero_add]; exact (CB13.out.kept hS).at_ hj) rfl (by first | rfl | go_simp)) ?_
              try simp only [Act.put, List.setIfInBounds_toArray, List.set_cons_zero, List.set_cons_succ]
              refine helds_one (i := 7) rfl (by kernel_rfl) rfl (fun K hK => ?_)
              refine wp_callU (d := some 136) (f := 27) (args := #[.pointer (some ⟨tb, 0, none⟩), .pointer (some ⟨rb, 0, none⟩), .agg #[.int .i64 ok, .int .i64 om, .string ow, .string opt, .string oo, .slice V ln c]]) rfl (by first | rfl | go_simp) ?_
              refine (look_any w w13.drew tb mb rb v2 M2 N2 (P13.out.grown (drewN_grown w13 1)) ok om ow opt oo (.slice V ln c) (by rw [HP.out]; exact HPL.out)).mono ?_
              rintro e w14 ⟨rfl, g14⟩
              refine ⟨_, rfl, ?_⟩
              have hS14 : w13.grownBy w14 none := grown_trans' (drewN_grown w13 1) g14
              clear g14
              refine hK.out _ _ (by assumption) (fun _ => ?_)
              clear hK K
              try simp only [Act.put, List.setIfInBounds_toArray, List.set_cons_zero, List.set_cons_succ]
              refine helds_take (i := 8) (d := some 137) (v := ?vUR0Z_8) (by assumption) rfl rfl (by kernel_rfl) (fun _ _ _ h => h) ?yUR0Z_8 ?_; case yUR0Z_8 => (refine Or.inl ⟨rfl, fun wx hS => ?_⟩; go_simp; try with_reducible rfl)
              try simp only [Act.put, List.setIfInBounds_toArray, List.set_cons_zero, List.set_cons_succ]
              refine helds_take (i := 9) (d := some 138) (v := ?vUR0Z_9) (by assumption) rfl rfl (by kernel_rfl) (fun _ _ _ h => h) ?yUR0Z_9 ?_; case yUR0Z_9 => (refine Or.inl ⟨rfl, fun wx hS => ?_⟩; go_simp; try with_reducible rfl)
              try simp only [Act.put, List.setIfInBounds_toArray, List.set_cons_zero, List.set_cons_succ]
              refine helds_take (i := 10) (d := some 139) (v := ?vUR0Z_10) (by assumption) rfl rfl (by kernel_rfl) (fun _ _ _ h => h) ?yUR0Z_10 ?_; case yUR0Z_10 => (refine Or.inl ⟨rfl, fun wx hS => ?_⟩; go_simp; try with_reducible rfl)
              try simp only [Act.put, List.setIfInBounds_toArray, List.set_cons_zero, List.set_cons_succ]
              refine helds_take (i := 11) (d := some 140) (v := ?vUR0Z_11) (by assumption) rfl rfl (by kernel_rfl) (fun _ _ _ h => h) ?yUR0Z_11 ?_; case yUR0Z_11 => (refine Or.inl ⟨rfl, fun wx hS => ?_⟩; go_simp; try with_reducible rfl)
              try simp only [Act.put, List.setIfInBounds_toArray, List.set_cons_zero, List.set_cons_succ]
              refine helds_take (i := 13) (d := some 142) (v := ?vUR0Z_12) (by assumption) rfl rfl (by kernel_rfl) (fun _ _ _ h => h) ?yUR0Z_12 ?_; case yUR0Z_12 => (refine Or.inl ⟨rfl, fun wx hS => ?_⟩; go_simp; try with_reducible rfl)
              try simp only [Act.put, List.setIfInBounds_toArray, List.set_cons_zero, List.set_cons_succ]
              refine helds_take (i := 14) (d := some 143) (v := ?vUR0Z_13) (by assumption) rfl rfl (by kernel_rfl) (fun _ _ _ h => h) ?yUR0Z_13 ?_; case yUR0Z_13 => (refine Or.inl ⟨rfl, fun wx hS => ?_⟩; go_simp; try with_reducible rfl)
              try simp only [Act.put, List.setIfInBounds_toArray, List.set_cons_zero, List.set_cons_succ]
              refine helds_take (i := 15) (d := some 144) (v := ?vUR0Z_14) (by assumption) rfl rfl (by kernel_rfl) (fun _ _ _ h => h) ?yUR0Z_14 ?_; case yUR0Z_14 => (refine Or.inl ⟨rfl, fun wx hS => ?_⟩; go_simp; try with_reducible rfl)
              try simp only [Act.put, List.setIfInBounds_toArray, List.set_cons_zero, List.set_cons_succ]
              refine helds_take (i := 16) (d := some 145) (v := ?vUR0Z_15) (by assumption) rfl rfl (by kernel_rfl) (fun _ _ _ h => h) ?yUR0Z_15 ?_; case yUR0Z_15 => (refine Or.inl ⟨rfl, fun wx hS => ?_⟩; have hk := HCT.out wx hS; go_simp; try with_reducible rfl)
              try simp only [Act.put, List.setIfInBounds_toArray, List.set_cons_zero, List.set_cons_succ]
              refine helds_one (i := 12) rfl (by kernel_rfl) rfl (fun K hK => ?_)
              refine wp_callU (d := some 141) (f := 29) (args := #[.pointer (some ⟨tb, 0, none⟩)]) rfl (by first | rfl | go_simp) ?_
              refine (nodes_any w14 tb mb M2 (P13.out.grown hS14).tg.ts (by have := P13.out.snd.len; omega) P13.out.snd.short).mono ?_
              rintro e w15 ⟨v15, ks, cs, rfl, hks, hrow, hat, g15⟩
              refine ⟨_, rfl, ?_⟩
              have hS15 : w13.grownBy w15 none := grown_trans' hS14 g15
              obtain ⟨al, hcl⟩ := nodes_alike (P13.out.grown hS14) hks hat g15
              obtain ⟨A15, c15, hv15, sr15, -⟩ := hrow.shape
              rw [hcl, HNN.out] at hv15
              subst hv15
              have AL15 := Lib.hid al
              have HCL := Lib.hid hcl
              have SR15 := Lib.hid sr15
              clear hks hrow hat g15 al hcl sr15
              refine hK.out _ _ (by assumption) (fun _ => ?_)
              clear hK K
              try simp only [Act.put, List.setIfInBounds_toArray, List.set_cons_zero, List.set_cons_succ]
              refine helds_one (i := 17) rfl (by kernel_rfl) rfl (fun K hK => ?_)
              refine wp_callU (d := some 146) (f := 28) (args := #[.slice A15 nn c15, .slice A2 nn c2]) rfl (by first | rfl | go_simp) ?_
              refine (same_true w15 A15 A2 nn c15 c2 cs (N2.map ndC) (HCL.out.trans HNN.out) (by rw [List.length_map]; exact HNN.out) SR15.out (HSR.out w15 hS15) AL15.out).mono ?_
              rintro e w16 ⟨rfl, g16⟩
              refine ⟨_, rfl, ?_⟩
              have hS16 : w13.grownBy w16 none := grown_trans' hS15 g16
              have GE := Lib.hid hS16
              clear g16
              refine hK.out _ _ (by assumption) (fun _ => ?_)
              clear hK K
              try simp only [Act.put, List.setIfInBounds_toArray, List.set_cons_zero, List.set_cons_succ]
              refine helds_take (i := 18) (d := some 147) (v := ?vUR0Z_16) (by assumption) rfl rfl (by kernel_rfl) (fun _ _ _ h => h) ?yUR0Z_16 ?_; case yUR0Z_16 => (refine Or.inl ⟨rfl, fun wx hS => ?_⟩; go_simp; try with_reducible rfl)
              try simp only [Act.put, List.setIfInBounds_toArray, List.set_cons_zero, List.set_cons_succ]
              refine helds_take (i := 19) (d := some 148) (v := ?vUR0Z_17) (by assumption) rfl rfl (by kernel_rfl) (fun _ _ _ h => h) ?yUR0Z_17 ?_; case yUR0Z_17 => (refine Or.inl ⟨rfl, fun wx hS => ?_⟩; go_simp; try with_reducible rfl)
              try simp only [Act.put, List.setIfInBounds_toArray, List.set_cons_zero, List.set_cons_succ]
              refine held_end (by kernel_rfl) ?_ _
              go_wp2
              go_roundw
              case rel => exact ⟨k + 1, M2, v2, N2, by go_num, by omega, P13.out.grown GE.out⟩
              case measure => simp [intOf]; omega
        · go_wp2_with (first
                      | (at_builtin
                         rw [show wr.alloc (.cells #[.int .i64 ok, .int .i64 om, .string ow, .string opt, .string oo, .slice V ln c] 31) = wo from HWO.out.symm, HWZ.out, ← HBX.out]
                         refine wpList_appB byteT rfl (.tmp 25) (.tmp 27) rfl (OwnB.new0 wo wo.heap.size 5 (Nat.le_refl _)) (HRBO.out.alloc (Nat.le_refl _) _) (by first | rfl | go_simp) (by rw [HLN.out]; first | rfl | go_simp) (by have h9 : ofb.length ≤ 1500 := HSZ.out.fb; simp; omega) (by rw [World.size_alloc]; omega) ?_
                         intro v9 w9 o9 g9 _ a9
                         rw [List.nil_append] at o9
                         have G9 := Lib.hid (fresh_grown rfl (World.grownBy.refl wo none) g9)
                         obtain ⟨A9, c9, hv9, r9, -⟩ := o9.shape
                         rw [HLN.out] at hv9
                         subst hv9
                         have O9 := Lib.hid o9
                         have RB9 := Lib.hid (show RB w9.drew w9.drew.heap.size A9 ofb c9 from r9.drew)
                         have PRd := Lib.hid (show PR w w9.drew tb mb M rb v N from PRO.out.grown (grown_drew G9.out))
                         have hS9 : CB w9.drew bx 31 [.int .i64 ok, .int .i64 om, .string ow, .string opt, .string oo, .slice V ln c] := (CBO.out.kept G9.out).drew
                         have c0 := (CBO.out.kept G9.out).at_ (i := 0) (v := .int .i64 ok) rfl
                         clear o9 g9 a9 r9))
          refine helds_begin (fun W => CB W bx 31 [.int .i64 ok, .int .i64 om, .string ow, .string opt, .string oo, .slice V ln c]) (by kernel_rfl) (by assumption) (fun _ => ?_)
          refine helds_take (i := 0) (d := some 67) (v := ?vUR1_1) (by assumption) rfl rfl (by kernel_rfl) (fun _ _ _ h => h) ?yUR1_1 ?_; case yUR1_1 => (refine Or.inl ⟨rfl, fun wx hS => ?_⟩; go_simp; try with_reducible rfl)
          try simp only [Act.put, List.setIfInBounds_toArray, List.set_cons_zero, List.set_cons_succ]
          refine helds_take (i := 1) (d := some 68) (v := ?vUR1_2) (by assumption) rfl rfl (by kernel_rfl) (fun _ _ _ h => h) ?yUR1_2 ?_; case yUR1_2 => (refine Or.inl ⟨rfl, fun wx hS => ?_⟩; go_simp; try with_reducible rfl)
          try simp only [Act.put, List.setIfInBounds_toArray, List.set_cons_zero, List.set_cons_succ]
          refine helds_take (i := 2) (d := some 69) (v := ?vUR1_3) (by assumption) rfl rfl (by kernel_rfl) (fun _ _ _ h => h) ?yUR1_3 ?_; case yUR1_3 => (refine Or.inl ⟨rfl, fun wx hS => ?_⟩; have hk := HC2.out wx hS; go_simp; try with_reducible rfl)
          try simp only [Act.put, List.setIfInBounds_toArray, List.set_cons_zero, List.set_cons_succ]
          refine helds_take (i := 3) (d := some 70) (v := ?vUR1_4) (by assumption) rfl rfl (by kernel_rfl) (fun _ _ _ h => h) ?yUR1_4 ?_; case yUR1_4 => (refine Or.inl ⟨rfl, fun wx hS => ?_⟩; go_simp; try with_reducible rfl)
          try simp only [Act.put, List.setIfInBounds_toArray, List.set_cons_zero, List.set_cons_succ]
          refine helds_take (i := 4) (d := some 71) (v := ?vUR1_5) (by assumption) rfl rfl (by kernel_rfl) (fun _ _ _ h => h) ?yUR1_5 ?_; case yUR1_5 => (refine Or.inl ⟨rfl, fun wx hS => ?_⟩; have hk := HC3.out wx hS; go_simp; try with_reducible rfl)
          try simp only [Act.put, List.setIfInBounds_toArray, List.set_cons_zero, List.set_cons_succ]
          refine helds_take (i := 5) (d := some 72) (v := ?vUR1_6) (by assumption) rfl rfl (by kernel_rfl) (fun _ _ _ h => h) ?yUR1_6 ?_; case yUR1_6 => (refine Or.inl ⟨rfl, fun wx hS => ?_⟩; go_simp; try with_reducible rfl)
          try simp only [Act.put, List.setIfInBounds_toArray, List.set_cons_zero, List.set_cons_succ]
          refine helds_take (i := 6) (d := some 73) (v := ?vUR1_7) (by assumption) rfl rfl (by kernel_rfl) (fun _ _ _ h => h) ?yUR1_7 ?_; case yUR1_7 => (refine Or.inl ⟨rfl, fun wx hS => ?_⟩; have hk := HC1.out wx hS; go_simp; try with_reducible rfl)
          try simp only [Act.put, List.setIfInBounds_toArray, List.set_cons_zero, List.set_cons_succ]
          refine helds_take (i := 8) (d := some 75) (v := ?vUR1_8) (by assumption) rfl rfl (by kernel_rfl) (fun _ _ _ h => h) ?yUR1_8 ?_; case yUR1_8 => (refine Or.inl ⟨rfl, fun wx hS => ?_⟩; go_simp; try with_reducible rfl)
          try simp only [Act.put, List.setIfInBounds_toArray, List.set_cons_zero, List.set_cons_succ]
          refine helds_take (i := 9) (d := some 76) (v := ?vUR1_9) (by assumption) rfl rfl (by kernel_rfl) (fun _ _ _ h => h) ?yUR1_9 ?_; case yUR1_9 => (refine Or.inl ⟨rfl, fun wx hS => ?_⟩; go_simp; try with_reducible rfl)
          try simp only [Act.put, List.setIfInBounds_toArray, List.set_cons_zero, List.set_cons_succ]
          refine helds_take (i := 10) (d := some 77) (v := ?vUR1_10) (by assumption) rfl rfl (by kernel_rfl) (fun _ _ _ h => h) ?yUR1_10 ?_; case yUR1_10 => (refine Or.inl ⟨rfl, fun wx hS => ?_⟩; have hk := HC2.out wx hS; go_simp; try with_reducible rfl)
          try simp only [Act.put, List.setIfInBounds_toArray, List.set_cons_zero, List.set_cons_succ]
          refine helds_take (i := 11) (d := some 78) (v := ?vUR1_11) (by assumption) rfl rfl (by kernel_rfl) (fun _ _ _ h => h) ?yUR1_11 ?_; case yUR1_11 => (refine Or.inl ⟨rfl, fun wx hS => ?_⟩; go_simp; try with_reducible rfl)
          try simp only [Act.put, List.setIfInBounds_toArray, List.set_cons_zero, List.set_cons_succ]
          refine helds_take (i := 12) (d := some 79) (v := ?vUR1_12) (by assumption) rfl rfl (by kernel_rfl) (fun _ _ _ h => h) ?yUR1_12 ?_; case yUR1_12 => (refine Or.inl ⟨rfl, fun wx hS => ?_⟩; have hk := HC3.out wx hS; go_simp; try with_reducible rfl)
          try simp only [Act.put, List.setIfInBounds_toArray, List.set_cons_zero, List.set_cons_succ]
          refine helds_take (i := 13) (d := some 80) (v := ?vUR1_13) (by assumption) rfl rfl (by kernel_rfl) (fun _ _ _ h => h) ?yUR1_13 ?_; case yUR1_13 => (refine Or.inl ⟨rfl, fun wx hS => ?_⟩; go_simp; try with_reducible rfl)
          try simp only [Act.put, List.setIfInBounds_toArray, List.set_cons_zero, List.set_cons_succ]
          refine helds_take (i := 14) (d := some 81) (v := ?vUR1_14) (by assumption) rfl rfl (by kernel_rfl) (fun _ _ _ h => h) ?yUR1_14 ?_; case yUR1_14 => (refine Or.inl ⟨rfl, fun wx hS => ?_⟩; have hk := HC1.out wx hS; go_simp; try with_reducible rfl)
          try simp only [Act.put, List.setIfInBounds_toArray, List.set_cons_zero, List.set_cons_succ]
          refine helds_one (i := 7) rfl (by kernel_rfl) rfl (fun K hK => ?_)
          refine wp_callU (d := some 74) (f := 19) (args := #[.pointer (some ⟨tb, 0, none⟩), .string ow, .string opt, .int .i64 om]) rfl (by first | rfl | go_simp) ?_
          refine (p_chmod PRd.out.tg PRd.out.snd ow opt p HP.out HPL.out om).mono ?_
          rintro e w10 ⟨rfl, dd⟩
          refine ⟨_, rfl, ?_⟩
          have DD := Lib.hid dd
          have hS10 : CB w10 bx 31 [.int .i64 ok, .int .i64 om, .string ow, .string opt, .string oo, .slice V ln c] := dd.cb PRd.out.tg.ts hS9 (by decide)
          clear dd
          refine hK.out _ _ (by assumption) (fun _ => ?_)
          clear hK K
          try simp only [Act.put, List.setIfInBounds_toArray, List.set_cons_zero, List.set_cons_succ]
          refine helds_one (i := 15) rfl (by kernel_rfl) rfl (fun K hK => ?_)
          refine wp_callU (d := some 82) (f := 20) (args := #[.pointer (some ⟨rb, 0, none⟩), .string ow, .string opt, .int .i64 om]) rfl (by first | rfl | go_simp) ?_
          refine (q_chmod PRd.out ow opt HP.out HPL.out om DD.out).mono ?_
          rintro e w11 ⟨rfl, dd2⟩
          refine ⟨_, rfl, ?_⟩
          obtain ⟨M2, v2, N2, nx⟩ := dd2
          have hS11 : CB w11 bx 31 [.int .i64 ok, .int .i64 om, .string ow, .string opt, .string oo, .slice V ln c] := nx.cb _ _ _ hS9 (by decide) (by decide)
          have NX := Lib.hid nx
          have CB11 := Lib.hid hS11
          clear nx
          refine hK.out _ _ (by assumption) (fun _ => ?_)
          clear hK K
          try simp only [Act.put, List.setIfInBounds_toArray, List.set_cons_zero, List.set_cons_succ]
          refine helds_take (i := 16) (d := some 7) (v := ?vUR1_15) (by assumption) rfl rfl (by kernel_rfl) (fun _ _ _ h => h) ?yUR1_15 ?_; case yUR1_15 => (refine Or.inl ⟨rfl, fun wx hS => ?_⟩; go_simp; try with_reducible rfl)
          try simp only [Act.put, List.setIfInBounds_toArray, List.set_cons_zero, List.set_cons_succ]
          refine helds_take (i := 17) (d := some 8) (v := ?vUR1_16) (by assumption) rfl rfl (by kernel_rfl) (fun _ _ _ h => h) ?yUR1_16 ?_; case yUR1_16 => (refine Or.inl ⟨rfl, fun wx hS => ?_⟩; go_simp; try with_reducible rfl)
          try simp only [Act.put, List.setIfInBounds_toArray, List.set_cons_zero, List.set_cons_succ]
          refine held_end (by kernel_rfl) ?_ _
          have CB11' := CB11.out
          have O11 := Lib.hid (show OwnB w11 wo.heap.size 5 (.slice A9 ln c9) ofb from own_base (NX.out.keep _ _ (OwnB.base_ (show OwnB w9.drew wo.heap.size 5 (.slice A9 ln c9) ofb from O9.out) (Nat.zero_le _))) O9.out)
          have NB := Lib.hid (show ∀ g, (Value.slice A9 ln c9).ownBlock = some g → NoB g M2 ∧ NoB g N2 ∧ w.heap.size ≤ g from fun g hg => by
            have h1 := O9.out.lt g hg
            have h2 := PRO.out.fresh h1.1
            have h3 := NX.out.nob g h1.2 h2.1 h2.2
            exact ⟨h3.1, h3.2, Nat.le_trans PRO.out.tg.gr.size h1.1⟩)
          have P11 := Lib.hid NX.out.pr
          clear CB11'
          have hlnb : ln ≤ 1500 := by rw [← HLN.out]; exact HSZ.out.fb
          go_wp2
          go_loopw [10, 122] (fun _ iv wr => ∃ (i : Nat) (l : List UInt8), iv = .int .i64 i ∧ i ≤ ln ∧ Hid (l.length = ln) ∧ Hid (OwnB wr wo.heap.size 5 (.slice A9 ln c9) l) ∧ Hid (PR w wr tb mb M2 rb v2 N2) ∧ Hid (CB wr bx 31 [.int .i64 ok, .int .i64 om, .string ow, .string opt, .string oo, .slice V ln c])) (fun _ iv _ => ln - (intOf iv).toNat)
          case atStart => exact ⟨0, ofb, rfl, Nat.zero_le _, HLN.out, O11.out, P11.out, CB11.out⟩
          case round =>
            obtain ⟨i, l, rfl, hi, HL, HO, HPI, HCI⟩ := hrel
            by_cases hlt2 : i < ln
            · have hii : (i : Int) < (ln : Int) := by omega
              obtain ⟨g, cs, hA, hcb, hic, hgb, hset⟩ := spoil_at HO.out HL.out hlt2
              subst hA
              have HSET := Lib.hid hset
              have HCB := Lib.hid hcb
              have q0 := hcb.at_ (i := i) (List.getElem?_eq_getElem hic)
              have f0 := hcb.free i
              have NB2 := Lib.hid (NB.out g rfl)
              clear hset hcb hgb
              go_wp2
              go_roundw
              case rel => exact ⟨i + 1, l.set i 238, by go_num, by omega, by rw [List.length_set]; exact HL.out, HSET.out _ (HCB.out.set_ i _), HPI.out.spoil NB2.out.1 NB2.out.2.1 HCB.out (grownC_set _ _ _ _) NB2.out.2.2, HCI.out.grown (grownC_set _ _ _ _) (cb_neT HCI.out HCB.out (by decide))⟩
              case measure => simp [intOf]; omega
            · have hii : ¬ (i : Int) < (ln : Int) := by omega
              obtain ⟨w13, hw13⟩ : ∃ x, x = wr := ⟨_, rfl⟩
              rw [← hw13] at HPI HCI ⊢
              clear hw13
              have P13 := Lib.hid HPI.out
              have CB13 := Lib.hid HCI.out
              obtain ⟨nn, hnn⟩ : ∃ nn, N2.length = nn := ⟨_, rfl⟩
              have HNN := Lib.hid hnn
              obtain ⟨A2, c2, hv2, -⟩ := P13.out.rt.open_
              rw [hnn] at hv2
              have HSR := Lib.hid (fun (wx : World) (hx : w13.grownBy wx none) => sr_of (show RowX wx 0 63 5 (.slice A2 nn c2) (N2.map ndC) by have h := (P13.out.grown hx).rt.row; rw [hv2] at h; exact h))
              have HCT := Lib.hid (fun (wx : World) (hx : w13.grownBy wx none) => (P13.out.grown hx).rt.top.at_ (i := 0) (v := .slice A2 nn c2) (by rw [← hv2]; rfl))
              clear hnn hv2 HO HL HPI HCI
              go_wp2
              refine helds_begin (fun W => w13.grownBy W none) (by kernel_rfl) (drewN_grown w13 1) (fun _ => ?_)
              refine helds_take (i := 0) (d := some 129) (v := ?vUR1Z_1) (by assumption) rfl rfl (by kernel_rfl) (fun _ _ _ h => h) ?yUR1Z_1 ?_; case yUR1Z_1 => (refine Or.inl ⟨rfl, fun wx hS => ?_⟩; go_simp; try with_reducible rfl)
              try simp only [Act.put, List.setIfInBounds_toArray, List.set_cons_zero, List.set_cons_succ]
              refine helds_take (i := 1) (d := some 130) (v := ?vUR1Z_2) (by assumption) rfl rfl (by kernel_rfl) (fun _ _ _ h => h) ?yUR1Z_2 ?_; case yUR1Z_2 => (refine Or.inl ⟨rfl, fun wx hS => ?_⟩; go_simp; try with_reducible rfl)
              try simp only [Act.put, List.setIfInBounds_toArray, List.set_cons_zero, List.set_cons_succ]
              refine helds_take (i := 2) (d := some 131) (v := ?vUR1Z_3) (by assumption) rfl rfl (by kernel_rfl) (fun _ _ _ h => h) ?yUR1Z_3 ?_; case yUR1Z_3 => (refine Or.inl ⟨rfl, fun wx hS => ?_⟩; go_simp; try with_reducible rfl)
              try simp only [Act.put, List.setIfInBounds_toArray, List.set_cons_zero, List.set_cons_succ]
              refine helds_take (i := 3) (d := some 132) (v := ?vUR1Z_4) (by assumption) rfl rfl (by kernel_rfl) (fun _ _ _ h => h) ?yUR1Z_4 ?_; case yUR1Z_4 => (refine Or.inl ⟨rfl, fun wx hS => ?_⟩; go_simp; try with_reducible rfl)
              try simp only [Act.put, List.setIfInBounds_toArray, List.set_cons_zero, List.set_cons_succ]
              refine helds_take (i := 4) (d := some 133) (v := ?vUR1Z_5) (by assumption) rfl rfl (by kernel_rfl) (fun _ _ _ h => h) ?yUR1Z_5 ?_; case yUR1Z_5 => (refine Or.inl ⟨rfl, fun wx hS => ?_⟩; go_simp; try with_reducible rfl)
              try simp only [Act.put, List.setIfInBounds_toArray, List.set_cons_zero, List.set_cons_succ]
              refine helds_take (i := 5) (d := some 134) (v := ?vUR1Z_6) (by assumption) rfl rfl (by kernel_rfl) (fun _ _ _ h => h) ?yUR1Z_6 ?_; case yUR1Z_6 => (refine Or.inl ⟨rfl, fun wx hS => ?_⟩; go_simp; try with_reducible rfl)
              try simp only [Act.put, List.setIfInBounds_toArray, List.set_cons_zero, List.set_cons_succ]
              refine helds_take (i := 6) (d := some 135) (v := _) (by assumption) rfl rfl (by kernel_rfl) (fun _ _ _ h => h) (yields_loadX (p := [.int .i64 ok, .int .i64 om, .string ow, .string opt, .string oo, .slice V ln c]) (b := bx) (off := 0) aggOp (.tmp 6) rfl rfl (fun wx hS j u hj => by rw [Nat.zero_add]; exact (CB13.out.kept hS).at_ hj) rfl (by first | rfl | go_simp)) ?_
              try simp only [Act.put, List.setIfInBounds_toArray, List.set_cons_zero, List.set_cons_succ]
              refine helds_one (i := 7) rfl (by kernel_rfl) rfl (fun K hK => ?_)
              refine wp_callU (d := some 136) (f := 27) (args := #[.pointer (some ⟨tb, 0, none⟩), .pointer (some ⟨rb, 0, none⟩), .agg #[.int .i64 ok, .int .i64 om, .string ow, .string opt, .string oo, .slice V ln c]]) rfl (by first | rfl | go_simp) ?_
              refine (look_any w w13.drew tb mb rb v2 M2 N2 (P13.out.grown (drewN_grown w13 1)) ok om ow opt oo (.slice V ln c) (by rw [HP.out]; exact HPL.out)).mono ?_
              rintro e w14 ⟨rfl, g14⟩
              refine ⟨_, rfl, ?_⟩
              have hS14 : w13.grownBy w14 none := grown_trans' (drewN_grown w13 1) g14
              clear g14
              refine hK.out _ _ (by assumption) (fun _ => ?_)
              clear hK K
              try simp only [Act.put, List.setIfInBounds_toArray, List.set_cons_zero, List.set_cons_succ]
              refine helds_take (i := 8) (d := some 137) (v := ?vUR1Z_8) (by assumption) rfl rfl (by kernel_rfl) (fun _ _ _ h => h) ?yUR1Z_8 ?_; case yUR1Z_8 => (refine Or.inl ⟨rfl, fun wx hS => ?_⟩; go_simp; try with_reducible rfl)
              try simp only [Act.put, List.setIfInBounds_toArray, List.set_cons_zero, List.set_cons_succ]
              refine helds_take (i := 9) (d := some 138) (v := ?vUR1Z_9) (by assumption) rfl rfl (by kernel_rfl) (fun _ _ _ h => h) ?yUR1Z_9 ?_; case yUR1Z_9 => (refine Or.inl ⟨rfl, fun wx hS => ?_⟩; go_simp; try with_reducible rfl)
              try simp only [Act.put, List.setIfInBounds_toArray, List.set_cons_zero, List.set_cons_succ]
              refine helds_take (i := 10) (d := some 139) (v := ?vUR1Z_10) (by assumption) rfl rfl (by kernel_rfl) (fun _ _ _ h => h) ?yUR1Z_10 ?_; case yUR1Z_10 => (refine Or.inl ⟨rfl, fun wx hS => ?_⟩; go_simp; try with_reducible rfl)
              try simp only [Act.put, List.setIfInBounds_toArray, List.set_cons_zero, List.set_cons_succ]
              refine helds_take (i := 11) (d := some 140) (v := ?vUR1Z_11) (by assumption) rfl rfl (by kernel_rfl) (fun _ _ _ h => h) ?yUR1Z_11 ?_; case yUR1Z_11 => (refine Or.inl ⟨rfl, fun wx hS => ?_⟩; go_simp; try with_reducible rfl)
              try simp only [Act.put, List.setIfInBounds_toArray, List.set_cons_zero, List.set_cons_succ]
              refine helds_take (i := 13) (d := some 142) (v := ?vUR1Z_12) (by assumption) rfl rfl (by kernel_rfl) (fun _ _ _ h => h) ?yUR1Z_12 ?_; case yUR1Z_12 => (refine Or.inl ⟨rfl, fun wx hS => ?_⟩; go_simp; try with_reducible rfl)
              try simp only [Act.put, List.setIfInBounds_toArray, List.set_cons_zero, List.set_cons_succ]
              refine helds_take (i := 14) (d := some 143) (v := ?vUR1Z_13) (by assumption) rfl rfl (by kernel_rfl) (fun _ _ _ h => h) ?yUR1Z_13 ?_; case yUR1Z_13 => (refine Or.inl ⟨rfl, fun wx hS => ?_⟩; go_simp; try with_reducible rfl)
              try simp only [Act.put, List.setIfInBounds_toArray, List.set_cons_zero, List.set_cons_succ]
              refine helds_take (i := 15) (d := some 144) (v := ?vUR1Z_14) (by assumption) rfl rfl (by kernel_rfl) (fun _ _ _ h => h) ?yUR1Z_14 ?_; case yUR1Z_14 => (refine Or.inl ⟨rfl, fun wx hS => ?_⟩; go_simp; try with_reducible rfl)
              try simp only [Act.put, List.setIfInBounds_toArray, List.set_cons_zero, List.set_cons_succ]
              refine helds_take (i := 16) (d := some 145) (v := ?vUR1Z_15) (by assumption) rfl rfl (by kernel_rfl) (fun _ _ _ h => h) ?yUR1Z_15 ?_; case yUR1Z_15 => (refine Or.inl ⟨rfl, fun wx hS => ?_⟩; have hk := HCT.out wx hS; go_simp; try with_reducible rfl)
              try simp only [Act.put, List.setIfInBounds_toArray, List.set_cons_zero, List.set_cons_succ]
              refine helds_one (i := 12) rfl (by kernel_rfl) rfl (fun K hK => ?_)
              refine wp_callU (d := some 141) (f := 29) (args := #[.pointer (some ⟨tb, 0, none⟩)]) rfl (by first | rfl | go_simp) ?_
              refine (nodes_any w14 tb mb M2 (P13.out.grown hS14).tg.ts (by have := P13.out.snd.len; omega) P13.out.snd.short).mono ?_
              rintro e w15 ⟨v15, ks, cs, rfl, hks, hrow, hat, g15⟩
              refine ⟨_, rfl, ?_⟩
              have hS15 : w13.grownBy w15 none := grown_trans' hS14 g15
              obtain ⟨al, hcl⟩ := nodes_alike (P13.out.grown hS14) hks hat g15
              obtain ⟨A15, c15, hv15, sr15, -⟩ := hrow.shape
              rw [hcl, HNN.out] at hv15
              subst hv15
              have AL15 := Lib.hid al
              have HCL := Lib.hid hcl
              have SR15 := Lib.hid sr15
              clear hks hrow hat g15 al hcl sr15
              refine hK.out _ _ (by assumption) (fun _ => ?_)
              clear hK K
              try simp only [Act.put, List.setIfInBounds_toArray, List.set_cons_zero, List.set_cons_succ]
              refine helds_one (i := 17) rfl (by kernel_rfl) rfl (fun K hK => ?_)
              refine wp_callU (d := some 146) (f := 28) (args := #[.slice A15 nn c15, .slice A2 nn c2]) rfl (by first | rfl | go_simp) ?_
              refine (same_true w15 A15 A2 nn c15 c2 cs (N2.map ndC) (HCL.out.trans HNN.out) (by rw [List.length_map]; exact HNN.out) SR15.out (HSR.out w15 hS15) AL15.out).mono ?_
              rintro e w16 ⟨rfl, g16⟩
              refine ⟨_, rfl, ?_⟩
              have hS16 : w13.grownBy w16 none := grown_trans' hS15 g16
              have GE := Lib.hid hS16
              clear g16
              refine hK.out _ _ (by assumption) (fun _ => ?_)
              clear hK K
              try simp only [Act.put, List.setIfInBounds_toArray, List.set_cons_zero, List.set_cons_succ]
              refine helds_take (i := 18) (d := some 147) (v := ?vUR1Z_16) (by assumption) rfl rfl (by kernel_rfl) (fun _ _ _ h => h) ?yUR1Z_16 ?_; case yUR1Z_16 => (refine Or.inl ⟨rfl, fun wx hS => ?_⟩; go_simp; try with_reducible rfl)
              try simp only [Act.put, List.setIfInBounds_toArray, List.set_cons_zero, List.set_cons_succ]
              refine helds_take (i := 19) (d := some 148) (v := ?vUR1Z_17) (by assumption) rfl rfl (by kernel_rfl) (fun _ _ _ h => h) ?yUR1Z_17 ?_; case yUR1Z_17 => (refine Or.inl ⟨rfl, fun wx hS => ?_⟩; go_simp; try with_reducible rfl)
              try simp only [Act.put, List.setIfInBounds_toArray, List.set_cons_zero, List.set_cons_succ]
              refine held_end (by kernel_rfl) ?_ _
              go_wp2
              go_roundw
              case rel => exact ⟨k + 1, M2, v2, N2, by go_num, by omega, P13.out.grown GE.out⟩
              case measure => simp [intOf]; omega
        · go_wp2_with (first
                      | (at_builtin
                         rw [show wr.alloc (.cells #[.int .i64 ok, .int .i64 om, .string ow, .string opt, .string oo, .slice V ln c] 31) = wo from HWO.out.symm, HWZ.out, ← HBX.out]
                         refine wpList_appB byteT rfl (.tmp 25) (.tmp 27) rfl (OwnB.new0 wo wo.heap.size 5 (Nat.le_refl _)) (HRBO.out.alloc (Nat.le_refl _) _) (by first | rfl | go_simp) (by rw [HLN.out]; first | rfl | go_simp) (by have h9 : ofb.length ≤ 1500 := HSZ.out.fb; simp; omega) (by rw [World.size_alloc]; omega) ?_
                         intro v9 w9 o9 g9 _ a9
                         rw [List.nil_append] at o9
                         have G9 := Lib.hid (fresh_grown rfl (World.grownBy.refl wo none) g9)
                         obtain ⟨A9, c9, hv9, r9, -⟩ := o9.shape
                         rw [HLN.out] at hv9
                         subst hv9
                         have O9 := Lib.hid o9
                         have RB9 := Lib.hid (show RB w9.drew w9.drew.heap.size A9 ofb c9 from r9.drew)
                         have PRd := Lib.hid (show PR w w9.drew tb mb M rb v N from PRO.out.grown (grown_drew G9.out))
                         have hS9 : CB w9.drew bx 31 [.int .i64 ok, .int .i64 om, .string ow, .string opt, .string oo, .slice V ln c] := (CBO.out.kept G9.out).drew
                         have c0 := (CBO.out.kept G9.out).at_ (i := 0) (v := .int .i64 ok) rfl
                         clear o9 g9 a9 r9))
          refine helds_begin (fun W => CB W bx 31 [.int .i64 ok, .int .i64 om, .string ow, .string opt, .string oo, .slice V ln c]) (by kernel_rfl) (by assumption) (fun _ => ?_)
          refine helds_take (i := 0) (d := some 85) (v := ?vUR2_1) (by assumption) rfl rfl (by kernel_rfl) (fun _ _ _ h => h) ?yUR2_1 ?_; case yUR2_1 => (refine Or.inl ⟨rfl, fun wx hS => ?_⟩; go_simp; try with_reducible rfl)
          try simp only [Act.put, List.setIfInBounds_toArray, List.set_cons_zero, List.set_cons_succ]
          refine helds_take (i := 1) (d := some 86) (v := ?vUR2_2) (by assumption) rfl rfl (by kernel_rfl) (fun _ _ _ h => h) ?yUR2_2 ?_; case yUR2_2 => (refine Or.inl ⟨rfl, fun wx hS => ?_⟩; go_simp; try with_reducible rfl)
          try simp only [Act.put, List.setIfInBounds_toArray, List.set_cons_zero, List.set_cons_succ]
          refine helds_take (i := 2) (d := some 87) (v := ?vUR2_3) (by assumption) rfl rfl (by kernel_rfl) (fun _ _ _ h => h) ?yUR2_3 ?_; case yUR2_3 => (refine Or.inl ⟨rfl, fun wx hS => ?_⟩; have hk := HC2.out wx hS; go_simp; try with_reducible rfl)
          try simp only [Act.put, List.setIfInBounds_toArray, List.set_cons_zero, List.set_cons_succ]
          refine helds_take (i := 3) (d := some 88) (v := ?vUR2_4) (by assumption) rfl rfl (by kernel_rfl) (fun _ _ _ h => h) ?yUR2_4 ?_; case yUR2_4 => (refine Or.inl ⟨rfl, fun wx hS => ?_⟩; go_simp; try with_reducible rfl)
          try simp only [Act.put, List.setIfInBounds_toArray, List.set_cons_zero, List.set_cons_succ]
          refine helds_take (i := 4) (d := some 89) (v := ?vUR2_5) (by assumption) rfl rfl (by kernel_rfl) (fun _ _ _ h => h) ?yUR2_5 ?_; case yUR2_5 => (refine Or.inl ⟨rfl, fun wx hS => ?_⟩; have hk := HC3.out wx hS; go_simp; try with_reducible rfl)
          try simp only [Act.put, List.setIfInBounds_toArray, List.set_cons_zero, List.set_cons_succ]
          refine helds_take (i := 5) (d := some 90) (v := ?vUR2_6) (by assumption) rfl rfl (by kernel_rfl) (fun _ _ _ h => h) ?yUR2_6 ?_; case yUR2_6 => (refine Or.inl ⟨rfl, fun wx hS => ?_⟩; go_simp; try with_reducible rfl)
          try simp only [Act.put, List.setIfInBounds_toArray, List.set_cons_zero, List.set_cons_succ]
          refine helds_take (i := 6) (d := some 91) (v := ?vUR2_7) (by assumption) rfl rfl (by kernel_rfl) (fun _ _ _ h => h) ?yUR2_7 ?_; case yUR2_7 => (refine Or.inl ⟨rfl, fun wx hS => ?_⟩; have hk := HC4.out wx hS; go_simp; try with_reducible rfl)
          try simp only [Act.put, List.setIfInBounds_toArray, List.set_cons_zero, List.set_cons_succ]
          refine helds_take (i := 8) (d := some 93) (v := ?vUR2_8) (by assumption) rfl rfl (by kernel_rfl) (fun _ _ _ h => h) ?yUR2_8 ?_; case yUR2_8 => (refine Or.inl ⟨rfl, fun wx hS => ?_⟩; go_simp; try with_reducible rfl)
          try simp only [Act.put, List.setIfInBounds_toArray, List.set_cons_zero, List.set_cons_succ]
          refine helds_take (i := 9) (d := some 94) (v := ?vUR2_9) (by assumption) rfl rfl (by kernel_rfl) (fun _ _ _ h => h) ?yUR2_9 ?_; case yUR2_9 => (refine Or.inl ⟨rfl, fun wx hS => ?_⟩; go_simp; try with_reducible rfl)
          try simp only [Act.put, List.setIfInBounds_toArray, List.set_cons_zero, List.set_cons_succ]
          refine helds_take (i := 10) (d := some 95) (v := ?vUR2_10) (by assumption) rfl rfl (by kernel_rfl) (fun _ _ _ h => h) ?yUR2_10 ?_; case yUR2_10 => (refine Or.inl ⟨rfl, fun wx hS => ?_⟩; have hk := HC2.out wx hS; go_simp; try with_reducible rfl)
          try simp only [Act.put, List.setIfInBounds_toArray, List.set_cons_zero, List.set_cons_succ]
          refine helds_take (i := 11) (d := some 96) (v := ?vUR2_11) (by assumption) rfl rfl (by kernel_rfl) (fun _ _ _ h => h) ?yUR2_11 ?_; case yUR2_11 => (refine Or.inl ⟨rfl, fun wx hS => ?_⟩; go_simp; try with_reducible rfl)
          try simp only [Act.put, List.setIfInBounds_toArray, List.set_cons_zero, List.set_cons_succ]
          refine helds_take (i := 12) (d := some 97) (v := ?vUR2_12) (by assumption) rfl rfl (by kernel_rfl) (fun _ _ _ h => h) ?yUR2_12 ?_; case yUR2_12 => (refine Or.inl ⟨rfl, fun wx hS => ?_⟩; have hk := HC3.out wx hS; go_simp; try with_reducible rfl)
          try simp only [Act.put, List.setIfInBounds_toArray, List.set_cons_zero, List.set_cons_succ]
          refine helds_take (i := 13) (d := some 98) (v := ?vUR2_13) (by assumption) rfl rfl (by kernel_rfl) (fun _ _ _ h => h) ?yUR2_13 ?_; case yUR2_13 => (refine Or.inl ⟨rfl, fun wx hS => ?_⟩; go_simp; try with_reducible rfl)
          try simp only [Act.put, List.setIfInBounds_toArray, List.set_cons_zero, List.set_cons_succ]
          refine helds_take (i := 14) (d := some 99) (v := ?vUR2_14) (by assumption) rfl rfl (by kernel_rfl) (fun _ _ _ h => h) ?yUR2_14 ?_; case yUR2_14 => (refine Or.inl ⟨rfl, fun wx hS => ?_⟩; have hk := HC4.out wx hS; go_simp; try with_reducible rfl)
          try simp only [Act.put, List.setIfInBounds_toArray, List.set_cons_zero, List.set_cons_succ]
          refine helds_one (i := 7) rfl (by kernel_rfl) rfl (fun K hK => ?_)
          refine wp_callU (d := some 92) (f := 21) (args := #[.pointer (some ⟨tb, 0, none⟩), .string ow, .string opt, .string oo]) rfl (by first | rfl | go_simp) ?_
          refine (p_give PRd.out.tg PRd.out.snd ow opt oo HOO.out p HP.out HPL.out).mono ?_
          rintro e w10 ⟨rfl, dd⟩
          refine ⟨_, rfl, ?_⟩
          have DD := Lib.hid dd
          have hS10 : CB w10 bx 31 [.int .i64 ok, .int .i64 om, .string ow, .string opt, .string oo, .slice V ln c] := dd.cb PRd.out.tg.ts hS9 (by decide)
          clear dd
          refine hK.out _ _ (by assumption) (fun _ => ?_)
          clear hK K
          try simp only [Act.put, List.setIfInBounds_toArray, List.set_cons_zero, List.set_cons_succ]
          refine helds_one (i := 15) rfl (by kernel_rfl) rfl (fun K hK => ?_)
          refine wp_callU (d := some 100) (f := 22) (args := #[.pointer (some ⟨rb, 0, none⟩), .string ow, .string opt, .string oo]) rfl (by first | rfl | go_simp) ?_
          refine (q_give PRd.out ow opt oo HP.out HPL.out DD.out).mono ?_
          rintro e w11 ⟨rfl, dd2⟩
          refine ⟨_, rfl, ?_⟩
          obtain ⟨M2, v2, N2, nx⟩ := dd2
          have hS11 : CB w11 bx 31 [.int .i64 ok, .int .i64 om, .string ow, .string opt, .string oo, .slice V ln c] := nx.cb _ _ _ hS9 (by decide) (by decide)
          have NX := Lib.hid nx
          have CB11 := Lib.hid hS11
          clear nx
          refine hK.out _ _ (by assumption) (fun _ => ?_)
          clear hK K
          try simp only [Act.put, List.setIfInBounds_toArray, List.set_cons_zero, List.set_cons_succ]
          refine helds_take (i := 16) (d := some 7) (v := ?vUR2_15) (by assumption) rfl rfl (by kernel_rfl) (fun _ _ _ h => h) ?yUR2_15 ?_; case yUR2_15 => (refine Or.inl ⟨rfl, fun wx hS => ?_⟩; go_simp; try with_reducible rfl)
          try simp only [Act.put, List.setIfInBounds_toArray, List.set_cons_zero, List.set_cons_succ]
          refine helds_take (i := 17) (d := some 8) (v := ?vUR2_16) (by assumption) rfl rfl (by kernel_rfl) (fun _ _ _ h => h) ?yUR2_16 ?_; case yUR2_16 => (refine Or.inl ⟨rfl, fun wx hS => ?_⟩; go_simp; try with_reducible rfl)
          try simp only [Act.put, List.setIfInBounds_toArray, List.set_cons_zero, List.set_cons_succ]
          refine held_end (by kernel_rfl) ?_ _
          have CB11' := CB11.out
          have O11 := Lib.hid (show OwnB w11 wo.heap.size 5 (.slice A9 ln c9) ofb from own_base (NX.out.keep _ _ (OwnB.base_ (show OwnB w9.drew wo.heap.size 5 (.slice A9 ln c9) ofb from O9.out) (Nat.zero_le _))) O9.out)
          have NB := Lib.hid (show ∀ g, (Value.slice A9 ln c9).ownBlock = some g → NoB g M2 ∧ NoB g N2 ∧ w.heap.size ≤ g from fun g hg => by
            have h1 := O9.out.lt g hg
            have h2 := PRO.out.fresh h1.1
            have h3 := NX.out.nob g h1.2 h2.1 h2.2
            exact ⟨h3.1, h3.2, Nat.le_trans PRO.out.tg.gr.size h1.1⟩)
          have P11 := Lib.hid NX.out.pr
          clear CB11'
          have hlnb : ln ≤ 1500 := by rw [← HLN.out]; exact HSZ.out.fb
          go_wp2
          go_loopw [10, 122] (fun _ iv wr => ∃ (i : Nat) (l : List UInt8), iv = .int .i64 i ∧ i ≤ ln ∧ Hid (l.length = ln) ∧ Hid (OwnB wr wo.heap.size 5 (.slice A9 ln c9) l) ∧ Hid (PR w wr tb mb M2 rb v2 N2) ∧ Hid (CB wr bx 31 [.int .i64 ok, .int .i64 om, .string ow, .string opt, .string oo, .slice V ln c])) (fun _ iv _ => ln - (intOf iv).toNat)
          case atStart => exact ⟨0, ofb, rfl, Nat.zero_le _, HLN.out, O11.out, P11.out, CB11.out⟩
          case round =>
            obtain ⟨i, l, rfl, hi, HL, HO, HPI, HCI⟩ := hrel
            by_cases hlt2 : i < ln
            · have hii : (i : Int) < (ln : Int) := by omega
              obtain ⟨g, cs, hA, hcb, hic, hgb, hset⟩ := spoil_at HO.out HL.out hlt2
              subst hA
              have HSET := Lib.hid hset
              have HCB := Lib.hid hcb
              have q0 := hcb.at_ (i := i) (List.getElem?_eq_getElem hic)
              have f0 := hcb.free i
              have NB2 := Lib.hid (NB.out g rfl)
              clear hset hcb hgb
              go_wp2
              go_roundw
              case rel => exact ⟨i + 1, l.set i 238, by go_num, by omega, by rw [List.length_set]; exact HL.out, HSET.out _ (HCB.out.set_ i _), HPI.out.spoil NB2.out.1 NB2.out.2.1 HCB.out (grownC_set _ _ _ _) NB2.out.2.2, HCI.out.grown (grownC_set _ _ _ _) (cb_neT HCI.out HCB.out (by decide))⟩
              case measure => simp [intOf]; omega
            · have hii : ¬ (i : Int) < (ln : Int) := by omega
              obtain ⟨w13, hw13⟩ : ∃ x, x = wr := ⟨_, rfl⟩
              rw [← hw13] at HPI HCI ⊢
              clear hw13
              have P13 := Lib.hid HPI.out
              have CB13 := Lib.hid HCI.out
              obtain ⟨nn, hnn⟩ : ∃ nn, N2.length = nn := ⟨_, rfl⟩
              have HNN := Lib.hid hnn
              obtain ⟨A2, c2, hv2, -⟩ := P13.out.rt.open_
              rw [hnn] at hv2
              have HSR := Lib.hid (fun (wx : World) (hx : w13.grownBy wx none) => sr_of (show RowX wx 0 63 5 (.slice A2 nn c2) (N2.map ndC) by have h := (P13.out.grown hx).rt.row; rw [hv2] at h; exact h))
              have HCT := Lib.hid (fun (wx : World) (hx : w13.grownBy wx none) => (P13.out.grown hx).rt.top.at_ (i := 0) (v := .slice A2 nn c2) (by rw [← hv2]; rfl))
              clear hnn hv2 HO HL HPI HCI
              go_wp2
              refine helds_begin (fun W => w13.grownBy W none) (by kernel_rfl) (drewN_grown w13 1) (fun _ => ?_)
              refine helds_take (i := 0) (d := some 129) (v := ?vUR2Z_1) (by assumption) rfl rfl (by kernel_rfl) (fun _ _ _ h => h) ?yUR2Z_1 ?_; case yUR2Z_1 => (refine Or.inl ⟨rfl, fun wx hS => ?_⟩; go_simp; try with_reducible rfl)
              try simp only [Act.put, List.setIfInBounds_toArray, List.set_cons_zero, List.set_cons_succ]
              refine helds_take (i := 1) (d := some 130) (v := ?vUR2Z_2) (by assumption) rfl rfl (by kernel_rfl) (fun _ _ _ h => h) ?yUR2Z_2 ?_; case yUR2Z_2 => (refine Or.inl ⟨rfl, fun wx hS => ?_⟩; go_simp; try with_reducible rfl)
              try simp only [Act.put, List.setIfInBounds_toArray, List.set_cons_zero, List.set_cons_succ]
              refine helds_take (i := 2) (d := some 131) (v := ?vUR2Z_3) (by assumption) rfl rfl (by kernel_rfl) (fun _ _ _ h => h) ?yUR2Z_3 ?_; case yUR2Z_3 => (refine Or.inl ⟨rfl, fun wx hS => ?_⟩; go_simp; try with_reducible rfl)
              try simp only [Act.put, List.setIfInBounds_toArray, List.set_cons_zero, List.set_cons_succ]
              refine helds_take (i := 3) (d := some 132) (v := ?vUR2Z_4) (by assumption) rfl rfl (by kernel_rfl) (fun _ _ _ h => h) ?yUR2Z_4 ?_; case yUR2Z_4 => (refine Or.inl ⟨rfl, fun wx hS => ?_⟩; go_simp; try with_reducible rfl)
              try simp only [Act.put, List.setIfInBounds_toArray, List.set_cons_zero, List.set_cons_succ]
              refine helds_take (i := 4) (d := some 133) (v := ?vUR2Z_5) (by assumption) rfl rfl (by kernel_rfl) (fun _ _ _ h => h) ?yUR2Z_5 ?_; case yUR2Z_5 => (refine Or.inl ⟨rfl, fun wx hS => ?_⟩; go_simp; try with_reducible rfl)
              try simp only [Act.put, List.setIfInBounds_toArray, List.set_cons_zero, List.set_cons_succ]
              refine helds_take (i := 5) (d := some 134) (v := ?vUR2Z_6) (by assumption) rfl rfl (by kernel_rfl) (fun _ _ _ h => h) ?yUR2Z_6 ?_; case yUR2Z_6 => (refine Or.inl ⟨rfl, fun wx hS => ?_⟩; go_simp; try with_reducible rfl)
              try simp only [Act.put, List.setIfInBounds_toArray, List.set_cons_zero, List.set_cons_succ]
              refine helds_take (i := 6) (d := some 135) (v := _) (by assumption) rfl rfl (by kernel_rfl) (fun _ _ _ h => h) (yields_loadX (p := [.int .i64 ok, .int .i64 om, .string ow, .string opt, .string oo, .slice V ln c]) (b := bx) (off := 0) aggOp (.tmp 6) rfl rfl (fun wx hS j u hj => by rw [Nat.zero_add]; exact (CB13.out.kept hS).at_ hj) rfl (by first | rfl | go_simp)) ?_
              try simp only [Act.put, List.setIfInBounds_toArray, List.set_cons_zero, List.set_cons_succ]
              refine helds_one (i := 7) rfl (by kernel_rfl) rfl (fun K hK => ?_)
              refine wp_callU (d := some 136) (f := 27) (args := #[.pointer (some ⟨tb, 0, none⟩), .pointer (some ⟨rb, 0, none⟩), .agg #[.int .i64 ok, .int .i64 om, .string ow, .string opt, .string oo, .slice V ln c]]) rfl (by first | rfl | go_simp) ?_
              refine (look_any w w13.drew tb mb rb v2 M2 N2 (P13.out.grown (drewN_grown w13 1)) ok om ow opt oo (.slice V ln c) (by rw [HP.out]; exact HPL.out)).mono ?_
              rintro e w14 ⟨rfl, g14⟩
              refine ⟨_, rfl, ?_⟩
              have hS14 : w13.grownBy w14 none := grown_trans' (drewN_grown w13 1) g14
              clear g14
              refine hK.out _ _ (by assumption) (fun _ => ?_)
              clear hK K
              try simp only [Act.put, List.setIfInBounds_toArray, List.set_cons_zero, List.set_cons_succ]
              refine helds_take (i := 8) (d := some 137) (v := ?vUR2Z_8) (by assumption) rfl rfl (by kernel_rfl) (fun _ _ _ h => h) ?yUR2Z_8 ?_; case yUR2Z_8 => (refine Or.inl ⟨rfl, fun wx hS => ?_⟩; go_simp; try with_reducible rfl)
              try simp only [Act.put, List.setIfInBounds_toArray, List.set_cons_zero, List.set_cons_succ]
              refine helds_take (i := 9) (d := some 138) (v := ?vUR2Z_9) (by assumption) rfl rfl (by kernel_rfl) (fun _ _ _ h => h) ?yUR2Z_9 ?_; case yUR2Z_9 => (refine Or.inl ⟨rfl, fun wx hS => ?_⟩; go_simp; try with_reducible rfl)
              try simp only [Act.put, List.setIfInBounds_toArray, List.set_cons_zero, List.set_cons_succ]
              refine helds_take (i := 10) (d := some 139) (v := ?vUR2Z_10) (by assumption) rfl rfl (by kernel_rfl) (fun _ _ _ h => h) ?yUR2Z_10 ?_; case yUR2Z_10 => (refine Or.inl ⟨rfl, fun wx hS => ?_⟩; go_simp; try with_reducible rfl)
              try simp only [Act.put, List.setIfInBounds_toArray, List.set_cons_zero, List.set_cons_succ]
              refine helds_take (i := 11) (d := some 140) (v := ?vUR2Z_11) (by assumption) rfl rfl (by kernel_rfl) (fun _ _ _ h => h) ?yUR2Z_11 ?_; case yUR2Z_11 => (refine Or.inl ⟨rfl, fun wx hS => ?_⟩; go_simp; try with_reducible rfl)
              try simp only [Act.put, List.setIfInBounds_toArray, List.set_cons_zero, List.set_cons_succ]
              refine helds_take (i := 13) (d := some 142) (v := ?vUR2Z_12) (by assumption) rfl rfl (by kernel_rfl) (fun _ _ _ h => h) ?yUR2Z_12 ?_; case yUR2Z_12 => (refine Or.inl ⟨rfl, fun wx hS => ?_⟩; go_simp; try with_reducible rfl)
              try simp only [Act.put, List.setIfInBounds_toArray, List.set_cons_zero, List.set_cons_succ]
              refine helds_take (i := 14) (d := some 143) (v := ?vUR2Z_13) (by assumption) rfl rfl (by kernel_rfl) (fun _ _ _ h => h) ?yUR2Z_13 ?_; case yUR2Z_13 => (refine Or.inl ⟨rfl, fun wx hS => ?_⟩; go_simp; try with_reducible rfl)
              try simp only [Act.put, List.setIfInBounds_toArray, List.set_cons_zero, List.set_cons_succ]
              refine helds_take (i := 15) (d := some 144) (v := ?vUR2Z_14) (by assumption) rfl rfl (by kernel_rfl) (fun _ _ _ h => h) ?yUR2Z_14 ?_; case yUR2Z_14 => (refine Or.inl ⟨rfl, fun wx hS => ?_⟩; go_simp; try with_reducible rfl)
              try simp only [Act.put, List.setIfInBounds_toArray, List.set_cons_zero, List.set_cons_succ]
              refine helds_take (i := 16) (d := some 145) (v := ?vUR2Z_15) (by assumption) rfl rfl (by kernel_rfl) (fun _ _ _ h => h) ?yUR2Z_15 ?_; case yUR2Z_15 => (refine Or.inl ⟨rfl, fun wx hS => ?_⟩; have hk := HCT.out wx hS; go_simp; try with_reducible rfl)
              try simp only [Act.put, List.setIfInBounds_toArray, List.set_cons_zero, List.set_cons_succ]
              refine helds_one (i := 12) rfl (by kernel_rfl) rfl (fun K hK => ?_)
              refine wp_callU (d := some 141) (f := 29) (args := #[.pointer (some ⟨tb, 0, none⟩)]) rfl (by first | rfl | go_simp) ?_
              refine (nodes_any w14 tb mb M2 (P13.out.grown hS14).tg.ts (by have := P13.out.snd.len; omega) P13.out.snd.short).mono ?_
              rintro e w15 ⟨v15, ks, cs, rfl, hks, hrow, hat, g15⟩
              refine ⟨_, rfl, ?_⟩
              have hS15 : w13.grownBy w15 none := grown_trans' hS14 g15
              obtain ⟨al, hcl⟩ := nodes_alike (P13.out.grown hS14) hks hat g15
              obtain ⟨A15, c15, hv15, sr15, -⟩ := hrow.shape
              rw [hcl, HNN.out] at hv15
              subst hv15
              have AL15 := Lib.hid al
              have HCL := Lib.hid hcl
              have SR15 := Lib.hid sr15
              clear hks hrow hat g15 al hcl sr15
              refine hK.out _ _ (by assumption) (fun _ => ?_)
              clear hK K
              try simp only [Act.put, List.setIfInBounds_toArray, List.set_cons_zero, List.set_cons_succ]
              refine helds_one (i := 17) rfl (by kernel_rfl) rfl (fun K hK => ?_)
              refine wp_callU (d := some 146) (f := 28) (args := #[.slice A15 nn c15, .slice A2 nn c2]) rfl (by first | rfl | go_simp) ?_
              refine (same_true w15 A15 A2 nn c15 c2 cs (N2.map ndC) (HCL.out.trans HNN.out) (by rw [List.length_map]; exact HNN.out) SR15.out (HSR.out w15 hS15) AL15.out).mono ?_
              rintro e w16 ⟨rfl, g16⟩
              refine ⟨_, rfl, ?_⟩
              have hS16 : w13.grownBy w16 none := grown_trans' hS15 g16
              have GE := Lib.hid hS16
              clear g16
              refine hK.out _ _ (by assumption) (fun _ => ?_)
              clear hK K
              try simp only [Act.put, List.setIfInBounds_toArray, List.set_cons_zero, List.set_cons_succ]
              refine helds_take (i := 18) (d := some 147) (v := ?vUR2Z_16) (by assumption) rfl rfl (by kernel_rfl) (fun _ _ _ h => h) ?yUR2Z_16 ?_; case yUR2Z_16 => (refine Or.inl ⟨rfl, fun wx hS => ?_⟩; go_simp; try with_reducible rfl)
              try simp only [Act.put, List.setIfInBounds_toArray, List.set_cons_zero, List.set_cons_succ]
              refine helds_take (i := 19) (d := some 148) (v := ?vUR2Z_17) (by assumption) rfl rfl (by kernel_rfl) (fun _ _ _ h => h) ?yUR2Z_17 ?_; case yUR2Z_17 => (refine Or.inl ⟨rfl, fun wx hS => ?_⟩; go_simp; try with_reducible rfl)
              try simp only [Act.put, List.setIfInBounds_toArray, List.set_cons_zero, List.set_cons_succ]
              refine held_end (by kernel_rfl) ?_ _
              go_wp2
              go_roundw
              case rel => exact ⟨k + 1, M2, v2, N2, by go_num, by omega, P13.out.grown GE.out⟩
              case measure => simp [intOf]; omega
        · go_wp2_with (first
                      | (at_builtin
                         rw [show wr.alloc (.cells #[.int .i64 ok, .int .i64 om, .string ow, .string opt, .string oo, .slice V ln c] 31) = wo from HWO.out.symm, HWZ.out, ← HBX.out]
                         refine wpList_appB byteT rfl (.tmp 25) (.tmp 27) rfl (OwnB.new0 wo wo.heap.size 5 (Nat.le_refl _)) (HRBO.out.alloc (Nat.le_refl _) _) (by first | rfl | go_simp) (by rw [HLN.out]; first | rfl | go_simp) (by have h9 : ofb.length ≤ 1500 := HSZ.out.fb; simp; omega) (by rw [World.size_alloc]; omega) ?_
                         intro v9 w9 o9 g9 _ a9
                         rw [List.nil_append] at o9
                         have G9 := Lib.hid (fresh_grown rfl (World.grownBy.refl wo none) g9)
                         obtain ⟨A9, c9, hv9, r9, -⟩ := o9.shape
                         rw [HLN.out] at hv9
                         subst hv9
                         have O9 := Lib.hid o9
                         have RB9 := Lib.hid (show RB w9.drew w9.drew.heap.size A9 ofb c9 from r9.drew)
                         have PRd := Lib.hid (show PR w w9.drew tb mb M rb v N from PRO.out.grown (grown_drew G9.out))
                         have hS9 : CB w9.drew bx 31 [.int .i64 ok, .int .i64 om, .string ow, .string opt, .string oo, .slice V ln c] := (CBO.out.kept G9.out).drew
                         have c0 := (CBO.out.kept G9.out).at_ (i := 0) (v := .int .i64 ok) rfl
                         clear o9 g9 a9 r9))
          refine helds_begin (fun W => CB W bx 31 [.int .i64 ok, .int .i64 om, .string ow, .string opt, .string oo, .slice V ln c]) (by kernel_rfl) (by assumption) (fun _ => ?_)
          refine helds_take (i := 0) (d := some 104) (v := ?vUR3_1) (by assumption) rfl rfl (by kernel_rfl) (fun _ _ _ h => h) ?yUR3_1 ?_; case yUR3_1 => (refine Or.inl ⟨rfl, fun wx hS => ?_⟩; go_simp; try with_reducible rfl)
          try simp only [Act.put, List.setIfInBounds_toArray, List.set_cons_zero, List.set_cons_succ]
          refine helds_take (i := 1) (d := some 105) (v := ?vUR3_2) (by assumption) rfl rfl (by kernel_rfl) (fun _ _ _ h => h) ?yUR3_2 ?_; case yUR3_2 => (refine Or.inl ⟨rfl, fun wx hS => ?_⟩; go_simp; try with_reducible rfl)
          try simp only [Act.put, List.setIfInBounds_toArray, List.set_cons_zero, List.set_cons_succ]
          refine helds_take (i := 2) (d := some 106) (v := ?vUR3_3) (by assumption) rfl rfl (by kernel_rfl) (fun _ _ _ h => h) ?yUR3_3 ?_; case yUR3_3 => (refine Or.inl ⟨rfl, fun wx hS => ?_⟩; have hk := HC2.out wx hS; go_simp; try with_reducible rfl)
          try simp only [Act.put, List.setIfInBounds_toArray, List.set_cons_zero, List.set_cons_succ]
          refine helds_take (i := 3) (d := some 107) (v := ?vUR3_4) (by assumption) rfl rfl (by kernel_rfl) (fun _ _ _ h => h) ?yUR3_4 ?_; case yUR3_4 => (refine Or.inl ⟨rfl, fun wx hS => ?_⟩; go_simp; try with_reducible rfl)
          try simp only [Act.put, List.setIfInBounds_toArray, List.set_cons_zero, List.set_cons_succ]
          refine helds_take (i := 4) (d := some 108) (v := ?vUR3_5) (by assumption) rfl rfl (by kernel_rfl) (fun _ _ _ h => h) ?yUR3_5 ?_; case yUR3_5 => (refine Or.inl ⟨rfl, fun wx hS => ?_⟩; have hk := HC3.out wx hS; go_simp; try with_reducible rfl)
          try simp only [Act.put, List.setIfInBounds_toArray, List.set_cons_zero, List.set_cons_succ]
          refine helds_take (i := 5) (d := some 109) (v := ?vUR3_6) (by assumption) rfl rfl (by kernel_rfl) (fun _ _ _ h => h) ?yUR3_6 ?_; case yUR3_6 => (refine Or.inl ⟨rfl, fun wx hS => ?_⟩; go_simp; try with_reducible rfl)
          try simp only [Act.put, List.setIfInBounds_toArray, List.set_cons_zero, List.set_cons_succ]
          refine helds_take (i := 6) (d := some 110) (v := ?vUR3_7) (by assumption) rfl rfl (by kernel_rfl) (fun _ _ _ h => h) ?yUR3_7 ?_; case yUR3_7 => (refine Or.inl ⟨rfl, fun wx hS => ?_⟩; have hk := HC1.out wx hS; go_simp; try with_reducible rfl)
          try simp only [Act.put, List.setIfInBounds_toArray, List.set_cons_zero, List.set_cons_succ]
          refine helds_take (i := 8) (d := some 112) (v := ?vUR3_8) (by assumption) rfl rfl (by kernel_rfl) (fun _ _ _ h => h) ?yUR3_8 ?_; case yUR3_8 => (refine Or.inl ⟨rfl, fun wx hS => ?_⟩; go_simp; try with_reducible rfl)
          try simp only [Act.put, List.setIfInBounds_toArray, List.set_cons_zero, List.set_cons_succ]
          refine helds_take (i := 9) (d := some 113) (v := ?vUR3_9) (by assumption) rfl rfl (by kernel_rfl) (fun _ _ _ h => h) ?yUR3_9 ?_; case yUR3_9 => (refine Or.inl ⟨rfl, fun wx hS => ?_⟩; go_simp; try with_reducible rfl)
          try simp only [Act.put, List.setIfInBounds_toArray, List.set_cons_zero, List.set_cons_succ]
          refine helds_take (i := 10) (d := some 114) (v := ?vUR3_10) (by assumption) rfl rfl (by kernel_rfl) (fun _ _ _ h => h) ?yUR3_10 ?_; case yUR3_10 => (refine Or.inl ⟨rfl, fun wx hS => ?_⟩; have hk := HC2.out wx hS; go_simp; try with_reducible rfl)
          try simp only [Act.put, List.setIfInBounds_toArray, List.set_cons_zero, List.set_cons_succ]
          refine helds_take (i := 11) (d := some 115) (v := ?vUR3_11) (by assumption) rfl rfl (by kernel_rfl) (fun _ _ _ h => h) ?yUR3_11 ?_; case yUR3_11 => (refine Or.inl ⟨rfl, fun wx hS => ?_⟩; go_simp; try with_reducible rfl)
          try simp only [Act.put, List.setIfInBounds_toArray, List.set_cons_zero, List.set_cons_succ]
          refine helds_take (i := 12) (d := some 116) (v := ?vUR3_12) (by assumption) rfl rfl (by kernel_rfl) (fun _ _ _ h => h) ?yUR3_12 ?_; case yUR3_12 => (refine Or.inl ⟨rfl, fun wx hS => ?_⟩; have hk := HC3.out wx hS; go_simp; try with_reducible rfl)
          try simp only [Act.put, List.setIfInBounds_toArray, List.set_cons_zero, List.set_cons_succ]
          refine helds_take (i := 13) (d := some 117) (v := ?vUR3_13) (by assumption) rfl rfl (by kernel_rfl) (fun _ _ _ h => h) ?yUR3_13 ?_; case yUR3_13 => (refine Or.inl ⟨rfl, fun wx hS => ?_⟩; go_simp; try with_reducible rfl)
          try simp only [Act.put, List.setIfInBounds_toArray, List.set_cons_zero, List.set_cons_succ]
          refine helds_take (i := 14) (d := some 118) (v := ?vUR3_14) (by assumption) rfl rfl (by kernel_rfl) (fun _ _ _ h => h) ?yUR3_14 ?_; case yUR3_14 => (refine Or.inl ⟨rfl, fun wx hS => ?_⟩; have hk := HC1.out wx hS; go_simp; try with_reducible rfl)
          try simp only [Act.put, List.setIfInBounds_toArray, List.set_cons_zero, List.set_cons_succ]
          refine helds_one (i := 7) rfl (by kernel_rfl) rfl (fun K hK => ?_)
          refine wp_callU (d := some 111) (f := 23) (args := #[.pointer (some ⟨tb, 0, none⟩), .string ow, .string opt, .int .i64 om]) rfl (by first | rfl | go_simp) ?_
          refine (p_mkdir PRd.out.tg PRd.out.snd ow opt HOW.out p HP.out HPL.out om).mono ?_
          rintro e w10 ⟨rfl, dd⟩
          refine ⟨_, rfl, ?_⟩
          have DD := Lib.hid dd
          have hS10 : CB w10 bx 31 [.int .i64 ok, .int .i64 om, .string ow, .string opt, .string oo, .slice V ln c] := dd.cb PRd.out.tg.ts hS9 (by decide)
          clear dd
          refine hK.out _ _ (by assumption) (fun _ => ?_)
          clear hK K
          try simp only [Act.put, List.setIfInBounds_toArray, List.set_cons_zero, List.set_cons_succ]
          refine helds_one (i := 15) rfl (by kernel_rfl) rfl (fun K hK => ?_)
          refine wp_callU (d := some 119) (f := 24) (args := #[.pointer (some ⟨rb, 0, none⟩), .string ow, .string opt, .int .i64 om]) rfl (by first | rfl | go_simp) ?_
          refine (q_mkdir PRd.out ow opt HP.out HPL.out om DD.out).mono ?_
          rintro e w11 ⟨rfl, dd2⟩
          refine ⟨_, rfl, ?_⟩
          obtain ⟨M2, v2, N2, nx⟩ := dd2
          have hS11 : CB w11 bx 31 [.int .i64 ok, .int .i64 om, .string ow, .string opt, .string oo, .slice V ln c] := nx.cb _ _ _ hS9 (by decide) (by decide)
          have NX := Lib.hid nx
          have CB11 := Lib.hid hS11
          clear nx
          refine hK.out _ _ (by assumption) (fun _ => ?_)
          clear hK K
          try simp only [Act.put, List.setIfInBounds_toArray, List.set_cons_zero, List.set_cons_succ]
          refine helds_take (i := 16) (d := some 7) (v := ?vUR3_15) (by assumption) rfl rfl (by kernel_rfl) (fun _ _ _ h => h) ?yUR3_15 ?_; case yUR3_15 => (refine Or.inl ⟨rfl, fun wx hS => ?_⟩; go_simp; try with_reducible rfl)
          try simp only [Act.put, List.setIfInBounds_toArray, List.set_cons_zero, List.set_cons_succ]
          refine helds_take (i := 17) (d := some 8) (v := ?vUR3_16) (by assumption) rfl rfl (by kernel_rfl) (fun _ _ _ h => h) ?yUR3_16 ?_; case yUR3_16 => (refine Or.inl ⟨rfl, fun wx hS => ?_⟩; go_simp; try with_reducible rfl)
          try simp only [Act.put, List.setIfInBounds_toArray, List.set_cons_zero, List.set_cons_succ]
          refine held_end (by kernel_rfl) ?_ _
          have CB11' := CB11.out
          have O11 := Lib.hid (show OwnB w11 wo.heap.size 5 (.slice A9 ln c9) ofb from own_base (NX.out.keep _ _ (OwnB.base_ (show OwnB w9.drew wo.heap.size 5 (.slice A9 ln c9) ofb from O9.out) (Nat.zero_le _))) O9.out)
          have NB := Lib.hid (show ∀ g, (Value.slice A9 ln c9).ownBlock = some g → NoB g M2 ∧ NoB g N2 ∧ w.heap.size ≤ g from fun g hg => by
            have h1 := O9.out.lt g hg
            have h2 := PRO.out.fresh h1.1
            have h3 := NX.out.nob g h1.2 h2.1 h2.2
            exact ⟨h3.1, h3.2, Nat.le_trans PRO.out.tg.gr.size h1.1⟩)
          have P11 := Lib.hid NX.out.pr
          clear CB11'
          have hlnb : ln ≤ 1500 := by rw [← HLN.out]; exact HSZ.out.fb
          go_wp2
          go_loopw [10, 122] (fun _ iv wr => ∃ (i : Nat) (l : List UInt8), iv = .int .i64 i ∧ i ≤ ln ∧ Hid (l.length = ln) ∧ Hid (OwnB wr wo.heap.size 5 (.slice A9 ln c9) l) ∧ Hid (PR w wr tb mb M2 rb v2 N2) ∧ Hid (CB wr bx 31 [.int .i64 ok, .int .i64 om, .string ow, .string opt, .string oo, .slice V ln c])) (fun _ iv _ => ln - (intOf iv).toNat)
          case atStart => exact ⟨0, ofb, rfl, Nat.zero_le _, HLN.out, O11.out, P11.out, CB11.out⟩
          case round =>
            obtain ⟨i, l, rfl, hi, HL, HO, HPI, HCI⟩ := hrel
            by_cases hlt2 : i < ln
            · have hii : (i : Int) < (ln : Int) := by omega
              obtain ⟨g, cs, hA, hcb, hic, hgb, hset⟩ := spoil_at HO.out HL.out hlt2
              subst hA
              have HSET := Lib.hid hset
              have HCB := Lib.hid hcb
              have q0 := hcb.at_ (i := i) (List.getElem?_eq_getElem hic)
              have f0 := hcb.free i
              have NB2 := Lib.hid (NB.out g rfl)
              clear hset hcb hgb
              go_wp2
              go_roundw
              case rel => exact ⟨i + 1, l.set i 238, by go_num, by omega, by rw [List.length_set]; exact HL.out, HSET.out _ (HCB.out.set_ i _), HPI.out.spoil NB2.out.1 NB2.out.2.1 HCB.out (grownC_set _ _ _ _) NB2.out.2.2, HCI.out.grown (grownC_set _ _ _ _) (cb_neT HCI.out HCB.out (by decide))⟩
              case measure => simp [intOf]; omega
            · have hii : ¬ (i : Int) < (ln : Int) := by omega
              obtain ⟨w13, hw13⟩ : ∃ x, x = wr := ⟨_, rfl⟩
              rw [← hw13] at HPI HCI ⊢
              clear hw13
              have P13 := Lib.hid HPI.out
              have CB13 := Lib.hid HCI.out
              obtain ⟨nn, hnn⟩ : ∃ nn, N2.length = nn := ⟨_, rfl⟩
              have HNN := Lib.hid hnn
              obtain ⟨A2, c2, hv2, -⟩ := P13.out.rt.open_
              rw [hnn] at hv2
              have HSR := Lib.hid (fun (wx : World) (hx : w13.grownBy wx none) => sr_of (show RowX wx 0 63 5 (.slice A2 nn c2) (N2.map ndC) by have h := (P13.out.grown hx).rt.row; rw [hv2] at h; exact h))
              have HCT := Lib.hid (fun (wx : World) (hx : w13.grownBy wx none) => (P13.out.grown hx).rt.top.at_ (i := 0) (v := .slice A2 nn c2) (by rw [← hv2]; rfl))
              clear hnn hv2 HO HL HPI HCI
              go_wp2
              refine helds_begin (fun W => w13.grownBy W none) (by kernel_rfl) (drewN_grown w13 1) (fun _ => ?_)
              refine helds_take (i := 0) (d := some 129) (v := ?vUR3Z_1) (by assumption) rfl rfl (by kernel_rfl) (fun _ _ _ h => h) ?yUR3Z_1 ?_; case yUR3Z_1 => (refine Or.inl ⟨rfl, fun wx hS => ?_⟩; go_simp; try with_reducible rfl)
              try simp only [Act.put, List.setIfInBounds_toArray, List.set_cons_zero, List.set_cons_succ]
              refine helds_take (i := 1) (d := some 130) (v := ?vUR3Z_2) (by assumption) rfl rfl (by kernel_rfl) (fun _ _ _ h => h) ?yUR3Z_2 ?_; case yUR3Z_2 => (refine Or.inl ⟨rfl, fun wx hS => ?_⟩; go_simp; try with_reducible rfl)
              try simp only [Act.put, List.setIfInBounds_toArray, List.set_cons_zero, List.set_cons_succ]
              refine helds_take (i := 2) (d := some 131) (v := ?vUR3Z_3) (by assumption) rfl rfl (by kernel_rfl) (fun _ _ _ h => h) ?yUR3Z_3 ?_; case yUR3Z_3 => (refine Or.inl ⟨rfl, fun wx hS => ?_⟩; go_simp; try with_reducible rfl)
              try simp only [Act.put, List.setIfInBounds_toArray, List.set_cons_zero, List.set_cons_succ]
              refine helds_take (i := 3) (d := some 132) (v := ?vUR3Z_4) (by assumption) rfl rfl (by kernel_rfl) (fun _ _ _ h => h) ?yUR3Z_4 ?_; case yUR3Z_4 => (refine Or.inl ⟨rfl, fun wx hS => ?_⟩; go_simp; try with_reducible rfl)
              try simp only [Act.put, List.setIfInBounds_toArray, List.set_cons_zero, List.set_cons_succ]
              refine helds_take (i := 4) (d := some 133) (v := ?vUR3Z_5) (by assumption) rfl rfl (by kernel_rfl) (fun _ _ _ h => h) ?yUR3Z_5 ?_; case yUR3Z_5 => (refine Or.inl ⟨rfl, fun wx hS => ?_⟩; go_simp; try with_reducible rfl)
              try simp only [Act.put, List.setIfInBounds_toArray, List.set_cons_zero, List.set_cons_succ]
              refine helds_take (i := 5) (d := some 134) (v := ?vUR3Z_6) (by assumption) rfl rfl (by kernel_rfl) (fun _ _ _ h => h) ?yUR3Z_6 ?_; case yUR3Z_6 => (refine Or.inl ⟨rfl, fun wx hS => ?_⟩; go_simp; try with_reducible rfl)
              try simp only [Act.put, List.setIfInBounds_toArray, List.set_cons_zero, List.set_cons_succ]
              refine helds_take (i := 6) (d := some 135) (v := _) (by assumption) rfl rfl (by kernel_rfl) (fun _ _ _ h => h) (yields_loadX (p := [.int .i64 ok, .int .i64 om, .string ow, .string opt, .string oo, .slice V ln c]) (b := bx) (off := 0) aggOp (.tmp 6) rfl rfl (fun wx hS j u hj => by rw [Nat.zero_add]; exact (CB13.out.kept hS).at_ hj) rfl (by first | rfl | go_simp)) ?_
              try simp only [Act.put, List.setIfInBounds_toArray, List.set_cons_zero, List.set_cons_succ]
              refine helds_one (i := 7) rfl (by kernel_rfl) rfl (fun K hK => ?_)
              refine wp_callU (d := some 136) (f := 27) (args := #[.pointer (some ⟨tb, 0, none⟩), .pointer (some ⟨rb, 0, none⟩), .agg #[.int .i64 ok, .int .i64 om, .string ow, .string opt, .string oo, .slice V ln c]]) rfl (by first | rfl | go_simp) ?_
              refine (look_any w w13.drew tb mb rb v2 M2 N2 (P13.out.grown (drewN_grown w13 1)) ok om ow opt oo (.slice V ln c) (by rw [HP.out]; exact HPL.out)).mono ?_
              rintro e w14 ⟨rfl, g14⟩
              refine ⟨_, rfl, ?_⟩
              have hS14 : w13.grownBy w14 none := grown_trans' (drewN_grown w13 1) g14
              clear g14
              refine hK.out _ _ (by assumption) (fun _ => ?_)
              clear hK K
              try simp only [Act.put, List.setIfInBounds_toArray, List.set_cons_zero, List.set_cons_succ]
              refine helds_take (i := 8) (d := some 137) (v := ?vUR3Z_8) (by assumption) rfl rfl (by kernel_rfl) (fun _ _ _ h => h) ?yUR3Z_8 ?_; case yUR3Z_8 => (refine Or.inl ⟨rfl, fun wx hS => ?_⟩; go_simp; try with_reducible rfl)
              try simp only [Act.put, List.setIfInBounds_toArray, List.set_cons_zero, List.set_cons_succ]
              refine helds_take (i := 9) (d := some 138) (v := ?vUR3Z_9) (by assumption) rfl rfl (by kernel_rfl) (fun _ _ _ h => h) ?yUR3Z_9 ?_; case yUR3Z_9 => (refine Or.inl ⟨rfl, fun wx hS => ?_⟩; go_simp; try with_reducible rfl)
              try simp only [Act.put, List.setIfInBounds_toArray, List.set_cons_zero, List.set_cons_succ]
              refine helds_take (i := 10) (d := some 139) (v := ?vUR3Z_10) (by assumption) rfl rfl (by kernel_rfl) (fun _ _ _ h => h) ?yUR3Z_10 ?_; case yUR3Z_10 => (refine Or.inl ⟨rfl, fun wx hS => ?_⟩; go_simp; try with_reducible rfl)
              try simp only [Act.put, List.setIfInBounds_toArray, List.set_cons_zero, List.set_cons_succ]
              refine helds_take (i := 11) (d := some 140) (v := ?vUR3Z_11) (by assumption) rfl rfl (by kernel_rfl) (fun _ _ _ h => h) ?yUR3Z_11 ?_; case yUR3Z_11 => (refine Or.inl ⟨rfl, fun wx hS => ?_⟩; go_simp; try with_reducible rfl)
              try simp only [Act.put, List.setIfInBounds_toArray, List.set_cons_zero, List.set_cons_succ]
              refine helds_take (i := 13) (d := some 142) (v := ?vUR3Z_12) (by assumption) rfl rfl (by kernel_rfl) (fun _ _ _ h => h) ?yUR3Z_12 ?_; case yUR3Z_12 => (refine Or.inl ⟨rfl, fun wx hS => ?_⟩; go_simp; try with_reducible rfl)
              try simp only [Act.put, List.setIfInBounds_toArray, List.set_cons_zero, List.set_cons_succ]
              refine helds_take (i := 14) (d := some 143) (v := ?vUR3Z_13) (by assumption) rfl rfl (by kernel_rfl) (fun _ _ _ h => h) ?yUR3Z_13 ?_; case yUR3Z_13 => (refine Or.inl ⟨rfl, fun wx hS => ?_⟩; go_simp; try with_reducible rfl)
              try simp only [Act.put, List.setIfInBounds_toArray, List.set_cons_zero, List.set_cons_succ]
              refine helds_take (i := 15) (d := some 144) (v := ?vUR3Z_14) (by assumption) rfl rfl (by kernel_rfl) (fun _ _ _ h => h) ?yUR3Z_14 ?_; case yUR3Z_14 => (refine Or.inl ⟨rfl, fun wx hS => ?_⟩; go_simp; try with_reducible rfl)
              try simp only [Act.put, List.setIfInBounds_toArray, List.set_cons_zero, List.set_cons_succ]
              refine helds_take (i := 16) (d := some 145) (v := ?vUR3Z_15) (by assumption) rfl rfl (by kernel_rfl) (fun _ _ _ h => h) ?yUR3Z_15 ?_; case yUR3Z_15 => (refine Or.inl ⟨rfl, fun wx hS => ?_⟩; have hk := HCT.out wx hS; go_simp; try with_reducible rfl)
              try simp only [Act.put, List.setIfInBounds_toArray, List.set_cons_zero, List.set_cons_succ]
              refine helds_one (i := 12) rfl (by kernel_rfl) rfl (fun K hK => ?_)
              refine wp_callU (d := some 141) (f := 29) (args := #[.pointer (some ⟨tb, 0, none⟩)]) rfl (by first | rfl | go_simp) ?_
              refine (nodes_any w14 tb mb M2 (P13.out.grown hS14).tg.ts (by have := P13.out.snd.len; omega) P13.out.snd.short).mono ?_
              rintro e w15 ⟨v15, ks, cs, rfl, hks, hrow, hat, g15⟩
              refine ⟨_, rfl, ?_⟩
              have hS15 : w13.grownBy w15 none := grown_trans' hS14 g15
              obtain ⟨al, hcl⟩ := nodes_alike (P13.out.grown hS14) hks hat g15
              obtain ⟨A15, c15, hv15, sr15, -⟩ := hrow.shape
              rw [hcl, HNN.out] at hv15
              subst hv15
              have AL15 := Lib.hid al
              have HCL := Lib.hid hcl
              have SR15 := Lib.hid sr15
              clear hks hrow hat g15 al hcl sr15
              refine hK.out _ _ (by assumption) (fun _ => ?_)
              clear hK K
              try simp only [Act.put, List.setIfInBounds_toArray, List.set_cons_zero, List.set_cons_succ]
              refine helds_one (i := 17) rfl (by kernel_rfl) rfl (fun K hK => ?_)
              refine wp_callU (d := some 146) (f := 28) (args := #[.slice A15 nn c15, .slice A2 nn c2]) rfl (by first | rfl | go_simp) ?_
              refine (same_true w15 A15 A2 nn c15 c2 cs (N2.map ndC) (HCL.out.trans HNN.out) (by rw [List.length_map]; exact HNN.out) SR15.out (HSR.out w15 hS15) AL15.out).mono ?_
              rintro e w16 ⟨rfl, g16⟩
              refine ⟨_, rfl, ?_⟩
              have hS16 : w13.grownBy w16 none := grown_trans' hS15 g16
              have GE := Lib.hid hS16
              clear g16
              refine hK.out _ _ (by assumption) (fun _ => ?_)
              clear hK K
              try simp only [Act.put, List.setIfInBounds_toArray, List.set_cons_zero, List.set_cons_succ]
              refine helds_take (i := 18) (d := some 147) (v := ?vUR3Z_16) (by assumption) rfl rfl (by kernel_rfl) (fun _ _ _ h => h) ?yUR3Z_16 ?_; case yUR3Z_16 => (refine Or.inl ⟨rfl, fun wx hS => ?_⟩; go_simp; try with_reducible rfl)
              try simp only [Act.put, List.setIfInBounds_toArray, List.set_cons_zero, List.set_cons_succ]
              refine helds_take (i := 19) (d := some 148) (v := ?vUR3Z_17) (by assumption) rfl rfl (by kernel_rfl) (fun _ _ _ h => h) ?yUR3Z_17 ?_; case yUR3Z_17 => (refine Or.inl ⟨rfl, fun wx hS => ?_⟩; go_simp; try with_reducible rfl)
              try simp only [Act.put, List.setIfInBounds_toArray, List.set_cons_zero, List.set_cons_succ]
              refine held_end (by kernel_rfl) ?_ _
              go_wp2
              go_roundw
              case rel => exact ⟨k + 1, M2, v2, N2, by go_num, by omega, P13.out.grown GE.out⟩
              case measure => simp [intOf]; omega
        · go_wp2_with (first
                      | (at_builtin
                         rw [show wr.alloc (.cells #[.int .i64 ok, .int .i64 om, .string ow, .string opt, .string oo, .slice V ln c] 31) = wo from HWO.out.symm, HWZ.out, ← HBX.out]
                         refine wpList_appB byteT rfl (.tmp 25) (.tmp 27) rfl (OwnB.new0 wo wo.heap.size 5 (Nat.le_refl _)) (HRBO.out.alloc (Nat.le_refl _) _) (by first | rfl | go_simp) (by rw [HLN.out]; first | rfl | go_simp) (by have h9 : ofb.length ≤ 1500 := HSZ.out.fb; simp; omega) (by rw [World.size_alloc]; omega) ?_
                         intro v9 w9 o9 g9 _ a9
                         rw [List.nil_append] at o9
                         have G9 := Lib.hid (fresh_grown rfl (World.grownBy.refl wo none) g9)
                         obtain ⟨A9, c9, hv9, r9, -⟩ := o9.shape
                         rw [HLN.out] at hv9
                         subst hv9
                         have O9 := Lib.hid o9
                         have RB9 := Lib.hid (show RB w9.drew w9.drew.heap.size A9 ofb c9 from r9.drew)
                         have PRd := Lib.hid (show PR w w9.drew tb mb M rb v N from PRO.out.grown (grown_drew G9.out))
                         have hS9 : CB w9.drew bx 31 [.int .i64 ok, .int .i64 om, .string ow, .string opt, .string oo, .slice V ln c] := (CBO.out.kept G9.out).drew
                         have c0 := (CBO.out.kept G9.out).at_ (i := 0) (v := .int .i64 ok) rfl
                         clear o9 g9 a9 r9))
          refine helds_begin (fun W => CB W bx 31 [.int .i64 ok, .int .i64 om, .string ow, .string opt, .string oo, .slice V ln c]) (by kernel_rfl) (by assumption) (fun _ => ?_)
          refine helds_take (i := 0) (d := some 104) (v := ?vUR4_1) (by assumption) rfl rfl (by kernel_rfl) (fun _ _ _ h => h) ?yUR4_1 ?_; case yUR4_1 => (refine Or.inl ⟨rfl, fun wx hS => ?_⟩; go_simp; try with_reducible rfl)
          try simp only [Act.put, List.setIfInBounds_toArray, List.set_cons_zero, List.set_cons_succ]
          refine helds_take (i := 1) (d := some 105) (v := ?vUR4_2) (by assumption) rfl rfl (by kernel_rfl) (fun _ _ _ h => h) ?yUR4_2 ?_; case yUR4_2 => (refine Or.inl ⟨rfl, fun wx hS => ?_⟩; go_simp; try with_reducible rfl)
          try simp only [Act.put, List.setIfInBounds_toArray, List.set_cons_zero, List.set_cons_succ]
          refine helds_take (i := 2) (d := some 106) (v := ?vUR4_3) (by assumption) rfl rfl (by kernel_rfl) (fun _ _ _ h => h) ?yUR4_3 ?_; case yUR4_3 => (refine Or.inl ⟨rfl, fun wx hS => ?_⟩; have hk := HC2.out wx hS; go_simp; try with_reducible rfl)
          try simp only [Act.put, List.setIfInBounds_toArray, List.set_cons_zero, List.set_cons_succ]
          refine helds_take (i := 3) (d := some 107) (v := ?vUR4_4) (by assumption) rfl rfl (by kernel_rfl) (fun _ _ _ h => h) ?yUR4_4 ?_; case yUR4_4 => (refine Or.inl ⟨rfl, fun wx hS => ?_⟩; go_simp; try with_reducible rfl)
          try simp only [Act.put, List.setIfInBounds_toArray, List.set_cons_zero, List.set_cons_succ]
          refine helds_take (i := 4) (d := some 108) (v := ?vUR4_5) (by assumption) rfl rfl (by kernel_rfl) (fun _ _ _ h => h) ?yUR4_5 ?_; case yUR4_5 => (refine Or.inl ⟨rfl, fun wx hS => ?_⟩; have hk := HC3.out wx hS; go_simp; try with_reducible rfl)
          try simp only [Act.put, List.setIfInBounds_toArray, List.set_cons_zero, List.set_cons_succ]
          refine helds_take (i := 5) (d := some 109) (v := ?vUR4_6) (by assumption) rfl rfl (by kernel_rfl) (fun _ _ _ h => h) ?yUR4_6 ?_; case yUR4_6 => (refine Or.inl ⟨rfl, fun wx hS => ?_⟩; go_simp; try with_reducible rfl)
          try simp only [Act.put, List.setIfInBounds_toArray, List.set_cons_zero, List.set_cons_succ]
          refine helds_take (i := 6) (d := some 110) (v := ?vUR4_7) (by assumption) rfl rfl (by kernel_rfl) (fun _ _ _ h => h) ?yUR4_7 ?_; case yUR4_7 => (refine Or.inl ⟨rfl, fun wx hS => ?_⟩; have hk := HC1.out wx hS; go_simp; try with_reducible rfl)
          try simp only [Act.put, List.setIfInBounds_toArray, List.set_cons_zero, List.set_cons_succ]
          refine helds_take (i := 8) (d := some 112) (v := ?vUR4_8) (by assumption) rfl rfl (by kernel_rfl) (fun _ _ _ h => h) ?yUR4_8 ?_; case yUR4_8 => (refine Or.inl ⟨rfl, fun wx hS => ?_⟩; go_simp; try with_reducible rfl)
          try simp only [Act.put, List.setIfInBounds_toArray, List.set_cons_zero, List.set_cons_succ]
          refine helds_take (i := 9) (d := some 113) (v := ?vUR4_9) (by assumption) rfl rfl (by kernel_rfl) (fun _ _ _ h => h) ?yUR4_9 ?_; case yUR4_9 => (refine Or.inl ⟨rfl, fun wx hS => ?_⟩; go_simp; try with_reducible rfl)
          try simp only [Act.put, List.setIfInBounds_toArray, List.set_cons_zero, List.set_cons_succ]
          refine helds_take (i := 10) (d := some 114) (v := ?vUR4_10) (by assumption) rfl rfl (by kernel_rfl) (fun _ _ _ h => h) ?yUR4_10 ?_; case yUR4_10 => (refine Or.inl ⟨rfl, fun wx hS => ?_⟩; have hk := HC2.out wx hS; go_simp; try with_reducible rfl)
          try simp only [Act.put, List.setIfInBounds_toArray, List.set_cons_zero, List.set_cons_succ]
          refine helds_take (i := 11) (d := some 115) (v := ?vUR4_11) (by assumption) rfl rfl (by kernel_rfl) (fun _ _ _ h => h) ?yUR4_11 ?_; case yUR4_11 => (refine Or.inl ⟨rfl, fun wx hS => ?_⟩; go_simp; try with_reducible rfl)
          try simp only [Act.put, List.setIfInBounds_toArray, List.set_cons_zero, List.set_cons_succ]
          refine helds_take (i := 12) (d := some 116) (v := ?vUR4_12) (by assumption) rfl rfl (by kernel_rfl) (fun _ _ _ h => h) ?yUR4_12 ?_; case yUR4_12 => (refine Or.inl ⟨rfl, fun wx hS => ?_⟩; have hk := HC3.out wx hS; go_simp; try with_reducible rfl)
          try simp only [Act.put, List.setIfInBounds_toArray, List.set_cons_zero, List.set_cons_succ]
          refine helds_take (i := 13) (d := some 117) (v := ?vUR4_13) (by assumption) rfl rfl (by kernel_rfl) (fun _ _ _ h => h) ?yUR4_13 ?_; case yUR4_13 => (refine Or.inl ⟨rfl, fun wx hS => ?_⟩; go_simp; try with_reducible rfl)
          try simp only [Act.put, List.setIfInBounds_toArray, List.set_cons_zero, List.set_cons_succ]
          refine helds_take (i := 14) (d := some 118) (v := ?vUR4_14) (by assumption) rfl rfl (by kernel_rfl) (fun _ _ _ h => h) ?yUR4_14 ?_; case yUR4_14 => (refine Or.inl ⟨rfl, fun wx hS => ?_⟩; have hk := HC1.out wx hS; go_simp; try with_reducible rfl)
          try simp only [Act.put, List.setIfInBounds_toArray, List.set_cons_zero, List.set_cons_succ]
          refine helds_one (i := 7) rfl (by kernel_rfl) rfl (fun K hK => ?_)
          refine wp_callU (d := some 111) (f := 23) (args := #[.pointer (some ⟨tb, 0, none⟩), .string ow, .string opt, .int .i64 om]) rfl (by first | rfl | go_simp) ?_
          refine (p_mkdir PRd.out.tg PRd.out.snd ow opt HOW.out p HP.out HPL.out om).mono ?_
          rintro e w10 ⟨rfl, dd⟩
          refine ⟨_, rfl, ?_⟩
          have DD := Lib.hid dd
          have hS10 : CB w10 bx 31 [.int .i64 ok, .int .i64 om, .string ow, .string opt, .string oo, .slice V ln c] := dd.cb PRd.out.tg.ts hS9 (by decide)
          clear dd
          refine hK.out _ _ (by assumption) (fun _ => ?_)
          clear hK K
          try simp only [Act.put, List.setIfInBounds_toArray, List.set_cons_zero, List.set_cons_succ]
          refine helds_one (i := 15) rfl (by kernel_rfl) rfl (fun K hK => ?_)
          refine wp_callU (d := some 119) (f := 24) (args := #[.pointer (some ⟨rb, 0, none⟩), .string ow, .string opt, .int .i64 om]) rfl (by first | rfl | go_simp) ?_
          refine (q_mkdir PRd.out ow opt HP.out HPL.out om DD.out).mono ?_
          rintro e w11 ⟨rfl, dd2⟩
          refine ⟨_, rfl, ?_⟩
          obtain ⟨M2, v2, N2, nx⟩ := dd2
          have hS11 : CB w11 bx 31 [.int .i64 ok, .int .i64 om, .string ow, .string opt, .string oo, .slice V ln c] := nx.cb _ _ _ hS9 (by decide) (by decide)
          have NX := Lib.hid nx
          have CB11 := Lib.hid hS11
          clear nx
          refine hK.out _ _ (by assumption) (fun _ => ?_)
          clear hK K
          try simp only [Act.put, List.setIfInBounds_toArray, List.set_cons_zero, List.set_cons_succ]
          refine helds_take (i := 16) (d := some 7) (v := ?vUR4_15) (by assumption) rfl rfl (by kernel_rfl) (fun _ _ _ h => h) ?yUR4_15 ?_; case yUR4_15 => (refine Or.inl ⟨rfl, fun wx hS => ?_⟩; go_simp; try with_reducible rfl)
          try simp only [Act.put, List.setIfInBounds_toArray, List.set_cons_zero, List.set_cons_succ]
          refine helds_take (i := 17) (d := some 8) (v := ?vUR4_16) (by assumption) rfl rfl (by kernel_rfl) (fun _ _ _ h => h) ?yUR4_16 ?_; case yUR4_16 => (refine Or.inl ⟨rfl, fun wx hS => ?_⟩; go_simp; try with_reducible rfl)
          try simp only [Act.put, List.setIfInBounds_toArray, List.set_cons_zero, List.set_cons_succ]
          refine held_end (by kernel_rfl) ?_ _
          have CB11' := CB11.out
          have O11 := Lib.hid (show OwnB w11 wo.heap.size 5 (.slice A9 ln c9) ofb from own_base (NX.out.keep _ _ (OwnB.base_ (show OwnB w9.drew wo.heap.size 5 (.slice A9 ln c9) ofb from O9.out) (Nat.zero_le _))) O9.out)
          have NB := Lib.hid (show ∀ g, (Value.slice A9 ln c9).ownBlock = some g → NoB g M2 ∧ NoB g N2 ∧ w.heap.size ≤ g from fun g hg => by
            have h1 := O9.out.lt g hg
            have h2 := PRO.out.fresh h1.1
            have h3 := NX.out.nob g h1.2 h2.1 h2.2
            exact ⟨h3.1, h3.2, Nat.le_trans PRO.out.tg.gr.size h1.1⟩)
          have P11 := Lib.hid NX.out.pr
          clear CB11'
          have hlnb : ln ≤ 1500 := by rw [← HLN.out]; exact HSZ.out.fb
          go_wp2
          go_loopw [10, 122] (fun _ iv wr => ∃ (i : Nat) (l : List UInt8), iv = .int .i64 i ∧ i ≤ ln ∧ Hid (l.length = ln) ∧ Hid (OwnB wr wo.heap.size 5 (.slice A9 ln c9) l) ∧ Hid (PR w wr tb mb M2 rb v2 N2) ∧ Hid (CB wr bx 31 [.int .i64 ok, .int .i64 om, .string ow, .string opt, .string oo, .slice V ln c])) (fun _ iv _ => ln - (intOf iv).toNat)
          case atStart => exact ⟨0, ofb, rfl, Nat.zero_le _, HLN.out, O11.out, P11.out, CB11.out⟩
          case round =>
            obtain ⟨i, l, rfl, hi, HL, HO, HPI, HCI⟩ := hrel
            by_cases hlt2 : i < ln
            · have hii : (i : Int) < (ln : Int) := by omega
              obtain ⟨g, cs, hA, hcb, hic, hgb, hset⟩ := spoil_at HO.out HL.out hlt2
              subst hA
              have HSET := Lib.hid hset
              have HCB := Lib.hid hcb
              have q0 := hcb.at_ (i := i) (List.getElem?_eq_getElem hic)
              have f0 := hcb.free i
              have NB2 := Lib.hid (NB.out g rfl)
              clear hset hcb hgb
              go_wp2
              go_roundw
              case rel => exact ⟨i + 1, l.set i 238, by go_num, by omega, by rw [List.length_set]; exact HL.out, HSET.out _ (HCB.out.set_ i _), HPI.out.spoil NB2.out.1 NB2.out.2.1 HCB.out (grownC_set _ _ _ _) NB2.out.2.2, HCI.out.grown (grownC_set _ _ _ _) (cb_neT HCI.out HCB.out (by decide))⟩
              case measure => simp [intOf]; omega
            · have hii : ¬ (i : Int) < (ln : Int) := by omega
              obtain ⟨w13, hw13⟩ : ∃ x, x = wr := ⟨_, rfl⟩
              rw [← hw13] at HPI HCI ⊢
              clear hw13
              have P13 := Lib.hid HPI.out
              have CB13 := Lib.hid HCI.out
              obtain ⟨nn, hnn⟩ : ∃ nn, N2.length = nn := ⟨_, rfl⟩
              have HNN := Lib.hid hnn
              obtain ⟨A2, c2, hv2, -⟩ := P13.out.rt.open_
              rw [hnn] at hv2
              have HSR := Lib.hid (fun (wx : World) (hx : w13.grownBy wx none) => sr_of (show RowX wx 0 63 5 (.slice A2 nn c2) (N2.map ndC) by have h := (P13.out.grown hx).rt.row; rw [hv2] at h; exact h))
              have HCT := Lib.hid (fun (wx : World) (hx : w13.grownBy wx none) => (P13.out.grown hx).rt.top.at_ (i := 0) (v := .slice A2 nn c2) (by rw [← hv2]; rfl))
              clear hnn hv2 HO HL HPI HCI
              go_wp2
              refine helds_begin (fun W => w13.grownBy W none) (by kernel_rfl) (drewN_grown w13 1) (fun _ => ?_)
              refine helds_take (i := 0) (d := some 129) (v := ?vUR4Z_1) (by assumption) rfl rfl (by kernel_rfl) (fun _ _ _ h => h) ?yUR4Z_1 ?_; case yUR4Z_1 => (refine Or.inl ⟨rfl, fun wx hS => ?_⟩; go_simp; try with_reducible rfl)
              try simp only [Act.put, List.setIfInBounds_toArray, List.set_cons_zero, List.set_cons_succ]
              refine helds_take (i := 1) (d := some 130) (v := ?vUR4Z_2) (by assumption) rfl rfl (by kernel_rfl) (fun _ _ _ h => h) ?yUR4Z_2 ?_; case yUR4Z_2 => (refine Or.inl ⟨rfl, fun wx hS => ?_⟩; go_simp; try with_reducible rfl)
              try simp only [Act.put, List.setIfInBounds_toArray, List.set_cons_zero, List.set_cons_succ]
              refine helds_take (i := 2) (d := some 131) (v := ?vUR4Z_3) (by assumption) rfl rfl (by kernel_rfl) (fun _ _ _ h => h) ?yUR4Z_3 ?_; case yUR4Z_3 => (refine Or.inl ⟨rfl, fun wx hS => ?_⟩; go_simp; try with_reducible rfl)
              try simp only [Act.put, List.setIfInBounds_toArray, List.set_cons_zero, List.set_cons_succ]
              refine helds_take (i := 3) (d := some 132) (v := ?vUR4Z_4) (by assumption) rfl rfl (by kernel_rfl) (fun _ _ _ h => h) ?yUR4Z_4 ?_; case yUR4Z_4 => (refine Or.inl ⟨rfl, fun wx hS => ?_⟩; go_simp; try with_reducible rfl)
              try simp only [Act.put, List.setIfInBounds_toArray, List.set_cons_zero, List.set_cons_succ]
              refine helds_take (i := 4) (d := some 133) (v := ?vUR4Z_5) (by assumption) rfl rfl (by kernel_rfl) (fun _ _ _ h => h) ?yUR4Z_5 ?_; case yUR4Z_5 => (refine Or.inl ⟨rfl, fun wx hS => ?_⟩; go_simp; try with_reducible rfl)
              try simp only [Act.put, List.setIfInBounds_toArray, List.set_cons_zero, List.set_cons_succ]
              refine helds_take (i := 5) (d := some 134) (v := ?vUR4Z_6) (by assumption) rfl rfl (by kernel_rfl) (fun _ _ _ h => h) ?yUR4Z_6 ?_; case yUR4Z_6 => (refine Or.inl ⟨rfl, fun wx hS => ?_⟩; go_simp; try with_reducible rfl)
              try simp only [Act.put, List.setIfInBounds_toArray, List.set_cons_zero, List.set_cons_succ]
              refine helds_take (i := 6) (d := some 135) (v := _) (by assumption) rfl rfl (by kernel_rfl) (fun _ _ _ h => h) (yields_loadX (p := [.int .i64 ok, .int .i64 om, .string ow, .string opt, .string oo, .slice V ln c]) (b := bx) (off := 0) aggOp (.tmp 6) rfl rfl (fun wx hS j u hj => by rw [Nat.zero_add]; exact (CB13.out.kept hS).at_ hj) rfl (by first | rfl | go_simp)) ?_
              try simp only [Act.put, List.setIfInBounds_toArray, List.set_cons_zero, List.set_cons_succ]
              refine helds_one (i := 7) rfl (by kernel_rfl) rfl (fun K hK => ?_)
              refine wp_callU (d := some 136) (f := 27) (args := #[.pointer (some ⟨tb, 0, none⟩), .pointer (some ⟨rb, 0, none⟩), .agg #[.int .i64 ok, .int .i64 om, .string ow, .string opt, .string oo, .slice V ln c]]) rfl (by first | rfl | go_simp) ?_
              refine (look_any w w13.drew tb mb rb v2 M2 N2 (P13.out.grown (drewN_grown w13 1)) ok om ow opt oo (.slice V ln c) (by rw [HP.out]; exact HPL.out)).mono ?_
              rintro e w14 ⟨rfl, g14⟩
              refine ⟨_, rfl, ?_⟩
              have hS14 : w13.grownBy w14 none := grown_trans' (drewN_grown w13 1) g14
              clear g14
              refine hK.out _ _ (by assumption) (fun _ => ?_)
              clear hK K
              try simp only [Act.put, List.setIfInBounds_toArray, List.set_cons_zero, List.set_cons_succ]
              refine helds_take (i := 8) (d := some 137) (v := ?vUR4Z_8) (by assumption) rfl rfl (by kernel_rfl) (fun _ _ _ h => h) ?yUR4Z_8 ?_; case yUR4Z_8 => (refine Or.inl ⟨rfl, fun wx hS => ?_⟩; go_simp; try with_reducible rfl)
              try simp only [Act.put, List.setIfInBounds_toArray, List.set_cons_zero, List.set_cons_succ]
              refine helds_take (i := 9) (d := some 138) (v := ?vUR4Z_9) (by assumption) rfl rfl (by kernel_rfl) (fun _ _ _ h => h) ?yUR4Z_9 ?_; case yUR4Z_9 => (refine Or.inl ⟨rfl, fun wx hS => ?_⟩; go_simp; try with_reducible rfl)
              try simp only [Act.put, List.setIfInBounds_toArray, List.set_cons_zero, List.set_cons_succ]
              refine helds_take (i := 10) (d := some 139) (v := ?vUR4Z_10) (by assumption) rfl rfl (by kernel_rfl) (fun _ _ _ h => h) ?yUR4Z_10 ?_; case yUR4Z_10 => (refine Or.inl ⟨rfl, fun wx hS => ?_⟩; go_simp; try with_reducible rfl)
              try simp only [Act.put, List.setIfInBounds_toArray, List.set_cons_zero, List.set_cons_succ]
              refine helds_take (i := 11) (d := some 140) (v := ?vUR4Z_11) (by assumption) rfl rfl (by kernel_rfl) (fun _ _ _ h => h) ?yUR4Z_11 ?_; case yUR4Z_11 => (refine Or.inl ⟨rfl, fun wx hS => ?_⟩; go_simp; try with_reducible rfl)
              try simp only [Act.put, List.setIfInBounds_toArray, List.set_cons_zero, List.set_cons_succ]
              refine helds_take (i := 13) (d := some 142) (v := ?vUR4Z_12) (by assumption) rfl rfl (by kernel_rfl) (fun _ _ _ h => h) ?yUR4Z_12 ?_; case yUR4Z_12 => (refine Or.inl ⟨rfl, fun wx hS => ?_⟩; go_simp; try with_reducible rfl)
              try simp only [Act.put, List.setIfInBounds_toArray, List.set_cons_zero, List.set_cons_succ]
              refine helds_take (i := 14) (d := some 143) (v := ?vUR4Z_13) (by assumption) rfl rfl (by kernel_rfl) (fun _ _ _ h => h) ?yUR4Z_13 ?_; case yUR4Z_13 => (refine Or.inl ⟨rfl, fun wx hS => ?_⟩; go_simp; try with_reducible rfl)
              try simp only [Act.put, List.setIfInBounds_toArray, List.set_cons_zero, List.set_cons_succ]
              refine helds_take (i := 15) (d := some 144) (v := ?vUR4Z_14) (by assumption) rfl rfl (by kernel_rfl) (fun _ _ _ h => h) ?yUR4Z_14 ?_; case yUR4Z_14 => (refine Or.inl ⟨rfl, fun wx hS => ?_⟩; go_simp; try with_reducible rfl)
              try simp only [Act.put, List.setIfInBounds_toArray, List.set_cons_zero, List.set_cons_succ]
              refine helds_take (i := 16) (d := some 145) (v := ?vUR4Z_15) (by assumption) rfl rfl (by kernel_rfl) (fun _ _ _ h => h) ?yUR4Z_15 ?_; case yUR4Z_15 => (refine Or.inl ⟨rfl, fun wx hS => ?_⟩; have hk := HCT.out wx hS; go_simp; try with_reducible rfl)
              try simp only [Act.put, List.setIfInBounds_toArray, List.set_cons_zero, List.set_cons_succ]
              refine helds_one (i := 12) rfl (by kernel_rfl) rfl (fun K hK => ?_)
              refine wp_callU (d := some 141) (f := 29) (args := #[.pointer (some ⟨tb, 0, none⟩)]) rfl (by first | rfl | go_simp) ?_
              refine (nodes_any w14 tb mb M2 (P13.out.grown hS14).tg.ts (by have := P13.out.snd.len; omega) P13.out.snd.short).mono ?_
              rintro e w15 ⟨v15, ks, cs, rfl, hks, hrow, hat, g15⟩
              refine ⟨_, rfl, ?_⟩
              have hS15 : w13.grownBy w15 none := grown_trans' hS14 g15
              obtain ⟨al, hcl⟩ := nodes_alike (P13.out.grown hS14) hks hat g15
              obtain ⟨A15, c15, hv15, sr15, -⟩ := hrow.shape
              rw [hcl, HNN.out] at hv15
              subst hv15
              have AL15 := Lib.hid al
              have HCL := Lib.hid hcl
              have SR15 := Lib.hid sr15
              clear hks hrow hat g15 al hcl sr15
              refine hK.out _ _ (by assumption) (fun _ => ?_)
              clear hK K
              try simp only [Act.put, List.setIfInBounds_toArray, List.set_cons_zero, List.set_cons_succ]
              refine helds_one (i := 17) rfl (by kernel_rfl) rfl (fun K hK => ?_)
              refine wp_callU (d := some 146) (f := 28) (args := #[.slice A15 nn c15, .slice A2 nn c2]) rfl (by first | rfl | go_simp) ?_
              refine (same_true w15 A15 A2 nn c15 c2 cs (N2.map ndC) (HCL.out.trans HNN.out) (by rw [List.length_map]; exact HNN.out) SR15.out (HSR.out w15 hS15) AL15.out).mono ?_
              rintro e w16 ⟨rfl, g16⟩
              refine ⟨_, rfl, ?_⟩
              have hS16 : w13.grownBy w16 none := grown_trans' hS15 g16
              have GE := Lib.hid hS16
              clear g16
              refine hK.out _ _ (by assumption) (fun _ => ?_)
              clear hK K
              try simp only [Act.put, List.setIfInBounds_toArray, List.set_cons_zero, List.set_cons_succ]
              refine helds_take (i := 18) (d := some 147) (v := ?vUR4Z_16) (by assumption) rfl rfl (by kernel_rfl) (fun _ _ _ h => h) ?yUR4Z_16 ?_; case yUR4Z_16 => (refine Or.inl ⟨rfl, fun wx hS => ?_⟩; go_simp; try with_reducible rfl)
              try simp only [Act.put, List.setIfInBounds_toArray, List.set_cons_zero, List.set_cons_succ]
              refine helds_take (i := 19) (d := some 148) (v := ?vUR4Z_17) (by assumption) rfl rfl (by kernel_rfl) (fun _ _ _ h => h) ?yUR4Z_17 ?_; case yUR4Z_17 => (refine Or.inl ⟨rfl, fun wx hS => ?_⟩; go_simp; try with_reducible rfl)
              try simp only [Act.put, List.setIfInBounds_toArray, List.set_cons_zero, List.set_cons_succ]
              refine held_end (by kernel_rfl) ?_ _
              go_wp2
              go_roundw
              case rel => exact ⟨k + 1, M2, v2, N2, by go_num, by omega, P13.out.grown GE.out⟩
              case measure => simp [intOf]; omega
        · go_wp2_with (first
                      | (at_builtin
                         rw [show wr.alloc (.cells #[.int .i64 ok, .int .i64 om, .string ow, .string opt, .string oo, .slice V ln c] 31) = wo from HWO.out.symm, HWZ.out, ← HBX.out]
                         refine wpList_appB byteT rfl (.tmp 25) (.tmp 27) rfl (OwnB.new0 wo wo.heap.size 5 (Nat.le_refl _)) (HRBO.out.alloc (Nat.le_refl _) _) (by first | rfl | go_simp) (by rw [HLN.out]; first | rfl | go_simp) (by have h9 : ofb.length ≤ 1500 := HSZ.out.fb; simp; omega) (by rw [World.size_alloc]; omega) ?_
                         intro v9 w9 o9 g9 _ a9
                         rw [List.nil_append] at o9
                         have G9 := Lib.hid (fresh_grown rfl (World.grownBy.refl wo none) g9)
                         obtain ⟨A9, c9, hv9, r9, -⟩ := o9.shape
                         rw [HLN.out] at hv9
                         subst hv9
                         have O9 := Lib.hid o9
                         have RB9 := Lib.hid (show RB w9.drew w9.drew.heap.size A9 ofb c9 from r9.drew)
                         have PRd := Lib.hid (show PR w w9.drew tb mb M rb v N from PRO.out.grown (grown_drew G9.out))
                         have hS9 : CB w9.drew bx 31 [.int .i64 ok, .int .i64 om, .string ow, .string opt, .string oo, .slice V ln c] := (CBO.out.kept G9.out).drew
                         have c0 := (CBO.out.kept G9.out).at_ (i := 0) (v := .int .i64 ok) rfl
                         clear o9 g9 a9 r9))
          refine helds_begin (fun W => CB W bx 31 [.int .i64 ok, .int .i64 om, .string ow, .string opt, .string oo, .slice V ln c]) (by kernel_rfl) (by assumption) (fun _ => ?_)
          refine helds_take (i := 0) (d := some 32) (v := ?vUR5_1) (by assumption) rfl rfl (by kernel_rfl) (fun _ _ _ h => h) ?yUR5_1 ?_; case yUR5_1 => (refine Or.inl ⟨rfl, fun wx hS => ?_⟩; go_simp; try with_reducible rfl)
          try simp only [Act.put, List.setIfInBounds_toArray, List.set_cons_zero, List.set_cons_succ]
          refine helds_take (i := 1) (d := some 33) (v := ?vUR5_2) (by assumption) rfl rfl (by kernel_rfl) (fun _ _ _ h => h) ?yUR5_2 ?_; case yUR5_2 => (refine Or.inl ⟨rfl, fun wx hS => ?_⟩; go_simp; try with_reducible rfl)
          try simp only [Act.put, List.setIfInBounds_toArray, List.set_cons_zero, List.set_cons_succ]
          refine helds_take (i := 2) (d := some 34) (v := ?vUR5_3) (by assumption) rfl rfl (by kernel_rfl) (fun _ _ _ h => h) ?yUR5_3 ?_; case yUR5_3 => (refine Or.inl ⟨rfl, fun wx hS => ?_⟩; have hk := HC2.out wx hS; go_simp; try with_reducible rfl)
          try simp only [Act.put, List.setIfInBounds_toArray, List.set_cons_zero, List.set_cons_succ]
          refine helds_take (i := 3) (d := some 35) (v := ?vUR5_4) (by assumption) rfl rfl (by kernel_rfl) (fun _ _ _ h => h) ?yUR5_4 ?_; case yUR5_4 => (refine Or.inl ⟨rfl, fun wx hS => ?_⟩; go_simp; try with_reducible rfl)
          try simp only [Act.put, List.setIfInBounds_toArray, List.set_cons_zero, List.set_cons_succ]
          refine helds_take (i := 4) (d := some 36) (v := ?vUR5_5) (by assumption) rfl rfl (by kernel_rfl) (fun _ _ _ h => h) ?yUR5_5 ?_; case yUR5_5 => (refine Or.inl ⟨rfl, fun wx hS => ?_⟩; have hk := HC3.out wx hS; go_simp; try with_reducible rfl)
          try simp only [Act.put, List.setIfInBounds_toArray, List.set_cons_zero, List.set_cons_succ]
          refine helds_take (i := 5) (d := some 37) (v := ?vUR5_6) (by assumption) rfl rfl (by kernel_rfl) (fun _ _ _ h => h) ?yUR5_6 ?_; case yUR5_6 => (refine Or.inl ⟨rfl, fun wx hS => ?_⟩; go_simp; try with_reducible rfl)
          try simp only [Act.put, List.setIfInBounds_toArray, List.set_cons_zero, List.set_cons_succ]
          refine helds_take (i := 6) (d := some 38) (v := ?vUR5_7) (by assumption) rfl rfl (by kernel_rfl) (fun _ _ _ h => h) ?yUR5_7 ?_; case yUR5_7 => (refine Or.inl ⟨rfl, fun wx hS => ?_⟩; go_simp; try with_reducible rfl)
          try simp only [Act.put, List.setIfInBounds_toArray, List.set_cons_zero, List.set_cons_succ]
          refine helds_take (i := 7) (d := some 39) (v := ?vUR5_8) (by assumption) rfl rfl (by kernel_rfl) (fun _ _ _ h => h) ?yUR5_8 ?_; case yUR5_8 => (refine Or.inl ⟨rfl, fun wx hS => ?_⟩; have hk := HC1.out wx hS; go_simp; try with_reducible rfl)
          try simp only [Act.put, List.setIfInBounds_toArray, List.set_cons_zero, List.set_cons_succ]
          refine helds_take (i := 9) (d := some 41) (v := ?vUR5_9) (by assumption) rfl rfl (by kernel_rfl) (fun _ _ _ h => h) ?yUR5_9 ?_; case yUR5_9 => (refine Or.inl ⟨rfl, fun wx hS => ?_⟩; go_simp; try with_reducible rfl)
          try simp only [Act.put, List.setIfInBounds_toArray, List.set_cons_zero, List.set_cons_succ]
          refine helds_take (i := 10) (d := some 42) (v := ?vUR5_10) (by assumption) rfl rfl (by kernel_rfl) (fun _ _ _ h => h) ?yUR5_10 ?_; case yUR5_10 => (refine Or.inl ⟨rfl, fun wx hS => ?_⟩; go_simp; try with_reducible rfl)
          try simp only [Act.put, List.setIfInBounds_toArray, List.set_cons_zero, List.set_cons_succ]
          refine helds_take (i := 11) (d := some 43) (v := ?vUR5_11) (by assumption) rfl rfl (by kernel_rfl) (fun _ _ _ h => h) ?yUR5_11 ?_; case yUR5_11 => (refine Or.inl ⟨rfl, fun wx hS => ?_⟩; have hk := HC2.out wx hS; go_simp; try with_reducible rfl)
          try simp only [Act.put, List.setIfInBounds_toArray, List.set_cons_zero, List.set_cons_succ]
          refine helds_take (i := 12) (d := some 44) (v := ?vUR5_12) (by assumption) rfl rfl (by kernel_rfl) (fun _ _ _ h => h) ?yUR5_12 ?_; case yUR5_12 => (refine Or.inl ⟨rfl, fun wx hS => ?_⟩; go_simp; try with_reducible rfl)
          try simp only [Act.put, List.setIfInBounds_toArray, List.set_cons_zero, List.set_cons_succ]
          refine helds_take (i := 13) (d := some 45) (v := ?vUR5_13) (by assumption) rfl rfl (by kernel_rfl) (fun _ _ _ h => h) ?yUR5_13 ?_; case yUR5_13 => (refine Or.inl ⟨rfl, fun wx hS => ?_⟩; have hk := HC3.out wx hS; go_simp; try with_reducible rfl)
          try simp only [Act.put, List.setIfInBounds_toArray, List.set_cons_zero, List.set_cons_succ]
          refine helds_take (i := 14) (d := some 46) (v := ?vUR5_14) (by assumption) rfl rfl (by kernel_rfl) (fun _ _ _ h => h) ?yUR5_14 ?_; case yUR5_14 => (refine Or.inl ⟨rfl, fun wx hS => ?_⟩; go_simp; try with_reducible rfl)
          try simp only [Act.put, List.setIfInBounds_toArray, List.set_cons_zero, List.set_cons_succ]
          refine helds_take (i := 15) (d := some 47) (v := ?vUR5_15) (by assumption) rfl rfl (by kernel_rfl) (fun _ _ _ h => h) ?yUR5_15 ?_; case yUR5_15 => (refine Or.inl ⟨rfl, fun wx hS => ?_⟩; have hk := HC5.out wx hS; go_simp; try with_reducible rfl)
          try simp only [Act.put, List.setIfInBounds_toArray, List.set_cons_zero, List.set_cons_succ]
          refine helds_take (i := 16) (d := some 48) (v := ?vUR5_16) (by assumption) rfl rfl (by kernel_rfl) (fun _ _ _ h => h) ?yUR5_16 ?_; case yUR5_16 => (refine Or.inl ⟨rfl, fun wx hS => ?_⟩; go_simp; try with_reducible rfl)
          try simp only [Act.put, List.setIfInBounds_toArray, List.set_cons_zero, List.set_cons_succ]
          refine helds_take (i := 17) (d := some 49) (v := ?vUR5_17) (by assumption) rfl rfl (by kernel_rfl) (fun _ _ _ h => h) ?yUR5_17 ?_; case yUR5_17 => (refine Or.inl ⟨rfl, fun wx hS => ?_⟩; have hk := HC1.out wx hS; go_simp; try with_reducible rfl)
          try simp only [Act.put, List.setIfInBounds_toArray, List.set_cons_zero, List.set_cons_succ]
          refine helds_one (i := 8) rfl (by kernel_rfl) rfl (fun K hK => ?_)
          refine wp_callU (d := some 40) (f := 25) (args := #[.pointer (some ⟨tb, 0, none⟩), .string ow, .string opt, .slice A9 ln c9, .int .i64 om]) rfl (by first | rfl | go_simp) ?_
          refine (p_write PRd.out.tg PRd.out.snd ow opt HOW.out p HP.out HPL.out A9 ofb ln c9 HLN.out RB9.out om).mono ?_
          rintro e w10 ⟨rfl, dd⟩
          refine ⟨_, rfl, ?_⟩
          have DD := Lib.hid dd
          have hS10 : CB w10 bx 31 [.int .i64 ok, .int .i64 om, .string ow, .string opt, .string oo, .slice V ln c] := dd.cb PRd.out.tg.ts hS9 (by decide)
          clear dd
          refine hK.out _ _ (by assumption) (fun _ => ?_)
          clear hK K
          try simp only [Act.put, List.setIfInBounds_toArray, List.set_cons_zero, List.set_cons_succ]
          refine helds_one (i := 18) rfl (by kernel_rfl) rfl (fun K hK => ?_)
          refine wp_callU (d := some 50) (f := 26) (args := #[.pointer (some ⟨rb, 0, none⟩), .string ow, .string opt, .slice V ln c, .int .i64 om]) rfl (by first | rfl | go_simp) ?_
          have RB10 := Lib.hid (show RB w10 w10.heap.size V ofb c from by obtain ⟨M', mid, -⟩ := PRd.out.prog DD.out; exact (HRV.out.below (below_of_none mid.tg.gr)).more mid.tg.gr.size)
          refine (q_write PRd.out ow opt HP.out HPL.out V ofb ln c HLN.out RB10.out om DD.out).mono ?_
          rintro e w11 ⟨rfl, dd2⟩
          refine ⟨_, rfl, ?_⟩
          obtain ⟨M2, v2, N2, nx⟩ := dd2
          have hS11 : CB w11 bx 31 [.int .i64 ok, .int .i64 om, .string ow, .string opt, .string oo, .slice V ln c] := nx.cb _ _ _ hS9 (by decide) (by decide)
          have NX := Lib.hid nx
          have CB11 := Lib.hid hS11
          clear nx
          refine hK.out _ _ (by assumption) (fun _ => ?_)
          clear hK K
          try simp only [Act.put, List.setIfInBounds_toArray, List.set_cons_zero, List.set_cons_succ]
          refine helds_take (i := 19) (d := some 7) (v := ?vUR5_18) (by assumption) rfl rfl (by kernel_rfl) (fun _ _ _ h => h) ?yUR5_18 ?_; case yUR5_18 => (refine Or.inl ⟨rfl, fun wx hS => ?_⟩; go_simp; try with_reducible rfl)
          try simp only [Act.put, List.setIfInBounds_toArray, List.set_cons_zero, List.set_cons_succ]
          refine helds_take (i := 20) (d := some 8) (v := ?vUR5_19) (by assumption) rfl rfl (by kernel_rfl) (fun _ _ _ h => h) ?yUR5_19 ?_; case yUR5_19 => (refine Or.inl ⟨rfl, fun wx hS => ?_⟩; go_simp; try with_reducible rfl)
          try simp only [Act.put, List.setIfInBounds_toArray, List.set_cons_zero, List.set_cons_succ]
          refine held_end (by kernel_rfl) ?_ _
          have CB11' := CB11.out
          have O11 := Lib.hid (show OwnB w11 wo.heap.size 5 (.slice A9 ln c9) ofb from own_base (NX.out.keep _ _ (OwnB.base_ (show OwnB w9.drew wo.heap.size 5 (.slice A9 ln c9) ofb from O9.out) (Nat.zero_le _))) O9.out)
          have NB := Lib.hid (show ∀ g, (Value.slice A9 ln c9).ownBlock = some g → NoB g M2 ∧ NoB g N2 ∧ w.heap.size ≤ g from fun g hg => by
            have h1 := O9.out.lt g hg
            have h2 := PRO.out.fresh h1.1
            have h3 := NX.out.nob g h1.2 h2.1 h2.2
            exact ⟨h3.1, h3.2, Nat.le_trans PRO.out.tg.gr.size h1.1⟩)
          have P11 := Lib.hid NX.out.pr
          clear CB11'
          have hlnb : ln ≤ 1500 := by rw [← HLN.out]; exact HSZ.out.fb
          go_wp2
          go_loopw [10, 122] (fun _ iv wr => ∃ (i : Nat) (l : List UInt8), iv = .int .i64 i ∧ i ≤ ln ∧ Hid (l.length = ln) ∧ Hid (OwnB wr wo.heap.size 5 (.slice A9 ln c9) l) ∧ Hid (PR w wr tb mb M2 rb v2 N2) ∧ Hid (CB wr bx 31 [.int .i64 ok, .int .i64 om, .string ow, .string opt, .string oo, .slice V ln c])) (fun _ iv _ => ln - (intOf iv).toNat)
          case atStart => exact ⟨0, ofb, rfl, Nat.zero_le _, HLN.out, O11.out, P11.out, CB11.out⟩
          case round =>
            obtain ⟨i, l, rfl, hi, HL, HO, HPI, HCI⟩ := hrel
            by_cases hlt2 : i < ln
            · have hii : (i : Int) < (ln : Int) := by omega
              obtain ⟨g, cs, hA, hcb, hic, hgb, hset⟩ := spoil_at HO.out HL.out hlt2
              subst hA
              have HSET := Lib.hid hset
              have HCB := Lib.hid hcb
              have q0 := hcb.at_ (i := i) (List.getElem?_eq_getElem hic)
              have f0 := hcb.free i
              have NB2 := Lib.hid (NB.out g rfl)
              clear hset hcb hgb
              go_wp2
              go_roundw
              case rel => exact ⟨i + 1, l.set i 238, by go_num, by omega, by rw [List.length_set]; exact HL.out, HSET.out _ (HCB.out.set_ i _), HPI.out.spoil NB2.out.1 NB2.out.2.1 HCB.out (grownC_set _ _ _ _) NB2.out.2.2, HCI.out.grown (grownC_set _ _ _ _) (cb_neT HCI.out HCB.out (by decide))⟩
              case measure => simp [intOf]; omega
            · have hii : ¬ (i : Int) < (ln : Int) := by omega
              obtain ⟨w13, hw13⟩ : ∃ x, x = wr := ⟨_, rfl⟩
              rw [← hw13] at HPI HCI ⊢
              clear hw13
              have P13 := Lib.hid HPI.out
              have CB13 := Lib.hid HCI.out
              obtain ⟨nn, hnn⟩ : ∃ nn, N2.length = nn := ⟨_, rfl⟩
              have HNN := Lib.hid hnn
              obtain ⟨A2, c2, hv2, -⟩ := P13.out.rt.open_
              rw [hnn] at hv2
              have HSR := Lib.hid (fun (wx : World) (hx : w13.grownBy wx none) => sr_of (show RowX wx 0 63 5 (.slice A2 nn c2) (N2.map ndC) by have h := (P13.out.grown hx).rt.row; rw [hv2] at h; exact h))
              have HCT := Lib.hid (fun (wx : World) (hx : w13.grownBy wx none) => (P13.out.grown hx).rt.top.at_ (i := 0) (v := .slice A2 nn c2) (by rw [← hv2]; rfl))
              clear hnn hv2 HO HL HPI HCI
              go_wp2
              refine helds_begin (fun W => w13.grownBy W none) (by kernel_rfl) (drewN_grown w13 1) (fun _ => ?_)
              refine helds_take (i := 0) (d := some 129) (v := ?vUR5Z_1) (by assumption) rfl rfl (by kernel_rfl) (fun _ _ _ h => h) ?yUR5Z_1 ?_; case yUR5Z_1 => (refine Or.inl ⟨rfl, fun wx hS => ?_⟩; go_simp; try with_reducible rfl)
              try simp only [Act.put, List.setIfInBounds_toArray, List.set_cons_zero, List.set_cons_succ]
              refine helds_take (i := 1) (d := some 130) (v := ?vUR5Z_2) (by assumption) rfl rfl (by kernel_rfl) (fun _ _ _ h => h) ?yUR5Z_2 ?_; case yUR5Z_2 => (refine Or.inl ⟨rfl, fun wx hS => ?_⟩; go_simp; try with_reducible rfl)
              try simp only [Act.put, List.setIfInBounds_toArray, List.set_cons_zero, List.set_cons_succ]
              refine helds_take (i := 2) (d := some 131) (v := ?vUR5Z_3) (by assumption) rfl rfl (by kernel_rfl) (fun _ _ _ h => h) ?yUR5Z_3 ?_; case yUR5Z_3 => (refine Or.inl ⟨rfl, fun wx hS => ?_⟩; go_simp; try with_reducible rfl)
              try simp only [Act.put, List.setIfInBounds_toArray, List.set_cons_zero, List.set_cons_succ]
              refine helds_take (i := 3) (d := some 132) (v := ?vUR5Z_4) (by assumption) rfl rfl (by kernel_rfl) (fun _ _ _ h => h) ?yUR5Z_4 ?_; case yUR5Z_4 => (refine Or.inl ⟨rfl, fun wx hS => ?_⟩; go_simp; try with_reducible rfl)
              try simp only [Act.put, List.setIfInBounds_toArray, List.set_cons_zero, List.set_cons_succ]
              refine helds_take (i := 4) (d := some 133) (v := ?vUR5Z_5) (by assumption) rfl rfl (by kernel_rfl) (fun _ _ _ h => h) ?yUR5Z_5 ?_; case yUR5Z_5 => (refine Or.inl ⟨rfl, fun wx hS => ?_⟩; go_simp; try with_reducible rfl)
              try simp only [Act.put, List.setIfInBounds_toArray, List.set_cons_zero, List.set_cons_succ]
              refine helds_take (i := 5) (d := some 134) (v := ?vUR5Z_6) (by assumption) rfl rfl (by kernel_rfl) (fun _ _ _ h => h) ?yUR5Z_6 ?_; case yUR5Z_6 => (refine Or.inl ⟨rfl, fun wx hS => ?_⟩; go_simp; try with_reducible rfl)
              try simp only [Act.put, List.setIfInBounds_toArray, List.set_cons_zero, List.set_cons_succ]
              refine helds_take (i := 6) (d := some 135) (v := _) (by assumption) rfl rfl (by kernel_rfl) (fun _ _ _ h => h) (yields_loadX (p := [.int .i64 ok, .int .i64 om, .string ow, .string opt, .string oo, .slice V ln c]) (b := bx) (off := 0) aggOp (.tmp 6) rfl rfl (fun wx hS j u hj => by rw [Nat.zero_add]; exact (CB13.out.kept hS).at_ hj) rfl (by first | rfl | go_simp)) ?_
              try simp only [Act.put, List.setIfInBounds_toArray, List.set_cons_zero, List.set_cons_succ]
              refine helds_one (i := 7) rfl (by kernel_rfl) rfl (fun K hK => ?_)
              refine wp_callU (d := some 136) (f := 27) (args := #[.pointer (some ⟨tb, 0, none⟩), .pointer (some ⟨rb, 0, none⟩), .agg #[.int .i64 ok, .int .i64 om, .string ow, .string opt, .string oo, .slice V ln c]]) rfl (by first | rfl | go_simp) ?_
              refine (look_any w w13.drew tb mb rb v2 M2 N2 (P13.out.grown (drewN_grown w13 1)) ok om ow opt oo (.slice V ln c) (by rw [HP.out]; exact HPL.out)).mono ?_
              rintro e w14 ⟨rfl, g14⟩
              refine ⟨_, rfl, ?_⟩
              have hS14 : w13.grownBy w14 none := grown_trans' (drewN_grown w13 1) g14
              clear g14
              refine hK.out _ _ (by assumption) (fun _ => ?_)
              clear hK K
              try simp only [Act.put, List.setIfInBounds_toArray, List.set_cons_zero, List.set_cons_succ]
              refine helds_take (i := 8) (d := some 137) (v := ?vUR5Z_8) (by assumption) rfl rfl (by kernel_rfl) (fun _ _ _ h => h) ?yUR5Z_8 ?_; case yUR5Z_8 => (refine Or.inl ⟨rfl, fun wx hS => ?_⟩; go_simp; try with_reducible rfl)
              try simp only [Act.put, List.setIfInBounds_toArray, List.set_cons_zero, List.set_cons_succ]
              refine helds_take (i := 9) (d := some 138) (v := ?vUR5Z_9) (by assumption) rfl rfl (by kernel_rfl) (fun _ _ _ h => h) ?yUR5Z_9 ?_; case yUR5Z_9 => (refine Or.inl ⟨rfl, fun wx hS => ?_⟩; go_simp; try with_reducible rfl)
              try simp only [Act.put, List.setIfInBounds_toArray, List.set_cons_zero, List.set_cons_succ]
              refine helds_take (i := 10) (d := some 139) (v := ?vUR5Z_10) (by assumption) rfl rfl (by kernel_rfl) (fun _ _ _ h => h) ?yUR5Z_10 ?_; case yUR5Z_10 => (refine Or.inl ⟨rfl, fun wx hS => ?_⟩; go_simp; try with_reducible rfl)
              try simp only [Act.put, List.setIfInBounds_toArray, List.set_cons_zero, List.set_cons_succ]
              refine helds_take (i := 11) (d := some 140) (v := ?vUR5Z_11) (by assumption) rfl rfl (by kernel_rfl) (fun _ _ _ h => h) ?yUR5Z_11 ?_; case yUR5Z_11 => (refine Or.inl ⟨rfl, fun wx hS => ?_⟩; go_simp; try with_reducible rfl)
              try simp only [Act.put, List.setIfInBounds_toArray, List.set_cons_zero, List.set_cons_succ]
              refine helds_take (i := 13) (d := some 142) (v := ?vUR5Z_12) (by assumption) rfl rfl (by kernel_rfl) (fun _ _ _ h => h) ?yUR5Z_12 ?_; case yUR5Z_12 => (refine Or.inl ⟨rfl, fun wx hS => ?_⟩; go_simp; try with_reducible rfl)
              try simp only [Act.put, List.setIfInBounds_toArray, List.set_cons_zero, List.set_cons_succ]
              refine helds_take (i := 14) (d := some 143) (v := ?vUR5Z_13) (by assumption) rfl rfl (by kernel_rfl) (fun _ _ _ h => h) ?yUR5Z_13 ?_; case yUR5Z_13 => (refine Or.inl ⟨rfl, fun wx hS => ?_⟩; go_simp; try with_reducible rfl)
              try simp only [Act.put, List.setIfInBounds_toArray, List.set_cons_zero, List.set_cons_succ]
              refine helds_take (i := 15) (d := some 144) (v := ?vUR5Z_14) (by assumption) rfl rfl (by kernel_rfl) (fun _ _ _ h => h) ?yUR5Z_14 ?_; case yUR5Z_14 => (refine Or.inl ⟨rfl, fun wx hS => ?_⟩; go_simp; try with_reducible rfl)
              try simp only [Act.put, List.setIfInBounds_toArray, List.set_cons_zero, List.set_cons_succ]
              refine helds_take (i := 16) (d := some 145) (v := ?vUR5Z_15) (by assumption) rfl rfl (by kernel_rfl) (fun _ _ _ h => h) ?yUR5Z_15 ?_; case yUR5Z_15 => (refine Or.inl ⟨rfl, fun wx hS => ?_⟩; have hk := HCT.out wx hS; go_simp; try with_reducible rfl)
              try simp only [Act.put, List.setIfInBounds_toArray, List.set_cons_zero, List.set_cons_succ]
              refine helds_one (i := 12) rfl (by kernel_rfl) rfl (fun K hK => ?_)
              refine wp_callU (d := some 141) (f := 29) (args := #[.pointer (some ⟨tb, 0, none⟩)]) rfl (by first | rfl | go_simp) ?_
              refine (nodes_any w14 tb mb M2 (P13.out.grown hS14).tg.ts (by have := P13.out.snd.len; omega) P13.out.snd.short).mono ?_
              rintro e w15 ⟨v15, ks, cs, rfl, hks, hrow, hat, g15⟩
              refine ⟨_, rfl, ?_⟩
              have hS15 : w13.grownBy w15 none := grown_trans' hS14 g15
              obtain ⟨al, hcl⟩ := nodes_alike (P13.out.grown hS14) hks hat g15
              obtain ⟨A15, c15, hv15, sr15, -⟩ := hrow.shape
              rw [hcl, HNN.out] at hv15
              subst hv15
              have AL15 := Lib.hid al
              have HCL := Lib.hid hcl
              have SR15 := Lib.hid sr15
              clear hks hrow hat g15 al hcl sr15
              refine hK.out _ _ (by assumption) (fun _ => ?_)
              clear hK K
              try simp only [Act.put, List.setIfInBounds_toArray, List.set_cons_zero, List.set_cons_succ]
              refine helds_one (i := 17) rfl (by kernel_rfl) rfl (fun K hK => ?_)
              refine wp_callU (d := some 146) (f := 28) (args := #[.slice A15 nn c15, .slice A2 nn c2]) rfl (by first | rfl | go_simp) ?_
              refine (same_true w15 A15 A2 nn c15 c2 cs (N2.map ndC) (HCL.out.trans HNN.out) (by rw [List.length_map]; exact HNN.out) SR15.out (HSR.out w15 hS15) AL15.out).mono ?_
              rintro e w16 ⟨rfl, g16⟩
              refine ⟨_, rfl, ?_⟩
              have hS16 : w13.grownBy w16 none := grown_trans' hS15 g16
              have GE := Lib.hid hS16
              clear g16
              refine hK.out _ _ (by assumption) (fun _ => ?_)
              clear hK K
              try simp only [Act.put, List.setIfInBounds_toArray, List.set_cons_zero, List.set_cons_succ]
              refine helds_take (i := 18) (d := some 147) (v := ?vUR5Z_16) (by assumption) rfl rfl (by kernel_rfl) (fun _ _ _ h => h) ?yUR5Z_16 ?_; case yUR5Z_16 => (refine Or.inl ⟨rfl, fun wx hS => ?_⟩; go_simp; try with_reducible rfl)
              try simp only [Act.put, List.setIfInBounds_toArray, List.set_cons_zero, List.set_cons_succ]
              refine helds_take (i := 19) (d := some 148) (v := ?vUR5Z_17) (by assumption) rfl rfl (by kernel_rfl) (fun _ _ _ h => h) ?yUR5Z_17 ?_; case yUR5Z_17 => (refine Or.inl ⟨rfl, fun wx hS => ?_⟩; go_simp; try with_reducible rfl)
              try simp only [Act.put, List.setIfInBounds_toArray, List.set_cons_zero, List.set_cons_succ]
              refine held_end (by kernel_rfl) ?_ _
              go_wp2
              go_roundw
              case rel => exact ⟨k + 1, M2, v2, N2, by go_num, by omega, P13.out.grown GE.out⟩
              case measure => simp [intOf]; omega
        · go_wp2_with (first
                      | (at_builtin
                         rw [show wr.alloc (.cells #[.int .i64 ok, .int .i64 om, .string ow, .string opt, .string oo, .slice V ln c] 31) = wo from HWO.out.symm, HWZ.out, ← HBX.out]
                         refine wpList_appB byteT rfl (.tmp 25) (.tmp 27) rfl (OwnB.new0 wo wo.heap.size 5 (Nat.le_refl _)) (HRBO.out.alloc (Nat.le_refl _) _) (by first | rfl | go_simp) (by rw [HLN.out]; first | rfl | go_simp) (by have h9 : ofb.length ≤ 1500 := HSZ.out.fb; simp; omega) (by rw [World.size_alloc]; omega) ?_
                         intro v9 w9 o9 g9 _ a9
                         rw [List.nil_append] at o9
                         have G9 := Lib.hid (fresh_grown rfl (World.grownBy.refl wo none) g9)
                         obtain ⟨A9, c9, hv9, r9, -⟩ := o9.shape
                         rw [HLN.out] at hv9
                         subst hv9
                         have O9 := Lib.hid o9
                         have RB9 := Lib.hid (show RB w9.drew w9.drew.heap.size A9 ofb c9 from r9.drew)
                         have PRd := Lib.hid (show PR w w9.drew tb mb M rb v N from PRO.out.grown (grown_drew G9.out))
                         have hS9 : CB w9.drew bx 31 [.int .i64 ok, .int .i64 om, .string ow, .string opt, .string oo, .slice V ln c] := (CBO.out.kept G9.out).drew
                         have c0 := (CBO.out.kept G9.out).at_ (i := 0) (v := .int .i64 ok) rfl
                         clear o9 g9 a9 r9))
          refine helds_begin (fun W => CB W bx 31 [.int .i64 ok, .int .i64 om, .string ow, .string opt, .string oo, .slice V ln c]) (by kernel_rfl) (by assumption) (fun _ => ?_)
          refine helds_take (i := 0) (d := some 32) (v := ?vUR6_1) (by assumption) rfl rfl (by kernel_rfl) (fun _ _ _ h => h) ?yUR6_1 ?_; case yUR6_1 => (refine Or.inl ⟨rfl, fun wx hS => ?_⟩; go_simp; try with_reducible rfl)
          try simp only [Act.put, List.setIfInBounds_toArray, List.set_cons_zero, List.set_cons_succ]
          refine helds_take (i := 1) (d := some 33) (v := ?vUR6_2) (by assumption) rfl rfl (by kernel_rfl) (fun _ _ _ h => h) ?yUR6_2 ?_; case yUR6_2 => (refine Or.inl ⟨rfl, fun wx hS => ?_⟩; go_simp; try with_reducible rfl)
          try simp only [Act.put, List.setIfInBounds_toArray, List.set_cons_zero, List.set_cons_succ]
          refine helds_take (i := 2) (d := some 34) (v := ?vUR6_3) (by assumption) rfl rfl (by kernel_rfl) (fun _ _ _ h => h) ?yUR6_3 ?_; case yUR6_3 => (refine Or.inl ⟨rfl, fun wx hS => ?_⟩; have hk := HC2.out wx hS; go_simp; try with_reducible rfl)
          try simp only [Act.put, List.setIfInBounds_toArray, List.set_cons_zero, List.set_cons_succ]
          refine helds_take (i := 3) (d := some 35) (v := ?vUR6_4) (by assumption) rfl rfl (by kernel_rfl) (fun _ _ _ h => h) ?yUR6_4 ?_; case yUR6_4 => (refine Or.inl ⟨rfl, fun wx hS => ?_⟩; go_simp; try with_reducible rfl)
          try simp only [Act.put, List.setIfInBounds_toArray, List.set_cons_zero, List.set_cons_succ]
          refine helds_take (i := 4) (d := some 36) (v := ?vUR6_5) (by assumption) rfl rfl (by kernel_rfl) (fun _ _ _ h => h) ?yUR6_5 ?_; case yUR6_5 => (refine Or.inl ⟨rfl, fun wx hS => ?_⟩; have hk := HC3.out wx hS; go_simp; try with_reducible rfl)
          try simp only [Act.put, List.setIfInBounds_toArray, List.set_cons_zero, List.set_cons_succ]
          refine helds_take (i := 5) (d := some 37) (v := ?vUR6_6) (by assumption) rfl rfl (by kernel_rfl) (fun _ _ _ h => h) ?yUR6_6 ?_; case yUR6_6 => (refine Or.inl ⟨rfl, fun wx hS => ?_⟩; go_simp; try with_reducible rfl)
          try simp only [Act.put, List.setIfInBounds_toArray, List.set_cons_zero, List.set_cons_succ]
          refine helds_take (i := 6) (d := some 38) (v := ?vUR6_7) (by assumption) rfl rfl (by kernel_rfl) (fun _ _ _ h => h) ?yUR6_7 ?_; case yUR6_7 => (refine Or.inl ⟨rfl, fun wx hS => ?_⟩; go_simp; try with_reducible rfl)
          try simp only [Act.put, List.setIfInBounds_toArray, List.set_cons_zero, List.set_cons_succ]
          refine helds_take (i := 7) (d := some 39) (v := ?vUR6_8) (by assumption) rfl rfl (by kernel_rfl) (fun _ _ _ h => h) ?yUR6_8 ?_; case yUR6_8 => (refine Or.inl ⟨rfl, fun wx hS => ?_⟩; have hk := HC1.out wx hS; go_simp; try with_reducible rfl)
          try simp only [Act.put, List.setIfInBounds_toArray, List.set_cons_zero, List.set_cons_succ]
          refine helds_take (i := 9) (d := some 41) (v := ?vUR6_9) (by assumption) rfl rfl (by kernel_rfl) (fun _ _ _ h => h) ?yUR6_9 ?_; case yUR6_9 => (refine Or.inl ⟨rfl, fun wx hS => ?_⟩; go_simp; try with_reducible rfl)
          try simp only [Act.put, List.setIfInBounds_toArray, List.set_cons_zero, List.set_cons_succ]
          refine helds_take (i := 10) (d := some 42) (v := ?vUR6_10) (by assumption) rfl rfl (by kernel_rfl) (fun _ _ _ h => h) ?yUR6_10 ?_; case yUR6_10 => (refine Or.inl ⟨rfl, fun wx hS => ?_⟩; go_simp; try with_reducible rfl)
          try simp only [Act.put, List.setIfInBounds_toArray, List.set_cons_zero, List.set_cons_succ]
          refine helds_take (i := 11) (d := some 43) (v := ?vUR6_11) (by assumption) rfl rfl (by kernel_rfl) (fun _ _ _ h => h) ?yUR6_11 ?_; case yUR6_11 => (refine Or.inl ⟨rfl, fun wx hS => ?_⟩; have hk := HC2.out wx hS; go_simp; try with_reducible rfl)
          try simp only [Act.put, List.setIfInBounds_toArray, List.set_cons_zero, List.set_cons_succ]
          refine helds_take (i := 12) (d := some 44) (v := ?vUR6_12) (by assumption) rfl rfl (by kernel_rfl) (fun _ _ _ h => h) ?yUR6_12 ?_; case yUR6_12 => (refine Or.inl ⟨rfl, fun wx hS => ?_⟩; go_simp; try with_reducible rfl)
          try simp only [Act.put, List.setIfInBounds_toArray, List.set_cons_zero, List.set_cons_succ]
          refine helds_take (i := 13) (d := some 45) (v := ?vUR6_13) (by assumption) rfl rfl (by kernel_rfl) (fun _ _ _ h => h) ?yUR6_13 ?_; case yUR6_13 => (refine Or.inl ⟨rfl, fun wx hS => ?_⟩; have hk := HC3.out wx hS; go_simp; try with_reducible rfl)
          try simp only [Act.put, List.setIfInBounds_toArray, List.set_cons_zero, List.set_cons_succ]
          refine helds_take (i := 14) (d := some 46) (v := ?vUR6_14) (by assumption) rfl rfl (by kernel_rfl) (fun _ _ _ h => h) ?yUR6_14 ?_; case yUR6_14 => (refine Or.inl ⟨rfl, fun wx hS => ?_⟩; go_simp; try with_reducible rfl)
          try simp only [Act.put, List.setIfInBounds_toArray, List.set_cons_zero, List.set_cons_succ]
          refine helds_take (i := 15) (d := some 47) (v := ?vUR6_15) (by assumption) rfl rfl (by kernel_rfl) (fun _ _ _ h => h) ?yUR6_15 ?_; case yUR6_15 => (refine Or.inl ⟨rfl, fun wx hS => ?_⟩; have hk := HC5.out wx hS; go_simp; try with_reducible rfl)
          try simp only [Act.put, List.setIfInBounds_toArray, List.set_cons_zero, List.set_cons_succ]
          refine helds_take (i := 16) (d := some 48) (v := ?vUR6_16) (by assumption) rfl rfl (by kernel_rfl) (fun _ _ _ h => h) ?yUR6_16 ?_; case yUR6_16 => (refine Or.inl ⟨rfl, fun wx hS => ?_⟩; go_simp; try with_reducible rfl)
          try simp only [Act.put, List.setIfInBounds_toArray, List.set_cons_zero, List.set_cons_succ]
          refine helds_take (i := 17) (d := some 49) (v := ?vUR6_17) (by assumption) rfl rfl (by kernel_rfl) (fun _ _ _ h => h) ?yUR6_17 ?_; case yUR6_17 => (refine Or.inl ⟨rfl, fun wx hS => ?_⟩; have hk := HC1.out wx hS; go_simp; try with_reducible rfl)
          try simp only [Act.put, List.setIfInBounds_toArray, List.set_cons_zero, List.set_cons_succ]
          refine helds_one (i := 8) rfl (by kernel_rfl) rfl (fun K hK => ?_)
          refine wp_callU (d := some 40) (f := 25) (args := #[.pointer (some ⟨tb, 0, none⟩), .string ow, .string opt, .slice A9 ln c9, .int .i64 om]) rfl (by first | rfl | go_simp) ?_
          refine (p_write PRd.out.tg PRd.out.snd ow opt HOW.out p HP.out HPL.out A9 ofb ln c9 HLN.out RB9.out om).mono ?_
          rintro e w10 ⟨rfl, dd⟩
          refine ⟨_, rfl, ?_⟩
          have DD := Lib.hid dd
          have hS10 : CB w10 bx 31 [.int .i64 ok, .int .i64 om, .string ow, .string opt, .string oo, .slice V ln c] := dd.cb PRd.out.tg.ts hS9 (by decide)
          clear dd
          refine hK.out _ _ (by assumption) (fun _ => ?_)
          clear hK K
          try simp only [Act.put, List.setIfInBounds_toArray, List.set_cons_zero, List.set_cons_succ]
          refine helds_one (i := 18) rfl (by kernel_rfl) rfl (fun K hK => ?_)
          refine wp_callU (d := some 50) (f := 26) (args := #[.pointer (some ⟨rb, 0, none⟩), .string ow, .string opt, .slice V ln c, .int .i64 om]) rfl (by first | rfl | go_simp) ?_
          have RB10 := Lib.hid (show RB w10 w10.heap.size V ofb c from by obtain ⟨M', mid, -⟩ := PRd.out.prog DD.out; exact (HRV.out.below (below_of_none mid.tg.gr)).more mid.tg.gr.size)
          refine (q_write PRd.out ow opt HP.out HPL.out V ofb ln c HLN.out RB10.out om DD.out).mono ?_
          rintro e w11 ⟨rfl, dd2⟩
          refine ⟨_, rfl, ?_⟩
          obtain ⟨M2, v2, N2, nx⟩ := dd2
          have hS11 : CB w11 bx 31 [.int .i64 ok, .int .i64 om, .string ow, .string opt, .string oo, .slice V ln c] := nx.cb _ _ _ hS9 (by decide) (by decide)
          have NX := Lib.hid nx
          have CB11 := Lib.hid hS11
          clear nx
          refine hK.out _ _ (by assumption) (fun _ => ?_)
          clear hK K
          try simp only [Act.put, List.setIfInBounds_toArray, List.set_cons_zero, List.set_cons_succ]
          refine helds_take (i := 19) (d := some 7) (v := ?vUR6_18) (by assumption) rfl rfl (by kernel_rfl) (fun _ _ _ h => h) ?yUR6_18 ?_; case yUR6_18 => (refine Or.inl ⟨rfl, fun wx hS => ?_⟩; go_simp; try with_reducible rfl)
          try simp only [Act.put, List.setIfInBounds_toArray, List.set_cons_zero, List.set_cons_succ]
          refine helds_take (i := 20) (d := some 8) (v := ?vUR6_19) (by assumption) rfl rfl (by kernel_rfl) (fun _ _ _ h => h) ?yUR6_19 ?_; case yUR6_19 => (refine Or.inl ⟨rfl, fun wx hS => ?_⟩; go_simp; try with_reducible rfl)
          try simp only [Act.put, List.setIfInBounds_toArray, List.set_cons_zero, List.set_cons_succ]
          refine held_end (by kernel_rfl) ?_ _
          have CB11' := CB11.out
          have O11 := Lib.hid (show OwnB w11 wo.heap.size 5 (.slice A9 ln c9) ofb from own_base (NX.out.keep _ _ (OwnB.base_ (show OwnB w9.drew wo.heap.size 5 (.slice A9 ln c9) ofb from O9.out) (Nat.zero_le _))) O9.out)
          have NB := Lib.hid (show ∀ g, (Value.slice A9 ln c9).ownBlock = some g → NoB g M2 ∧ NoB g N2 ∧ w.heap.size ≤ g from fun g hg => by
            have h1 := O9.out.lt g hg
            have h2 := PRO.out.fresh h1.1
            have h3 := NX.out.nob g h1.2 h2.1 h2.2
            exact ⟨h3.1, h3.2, Nat.le_trans PRO.out.tg.gr.size h1.1⟩)
          have P11 := Lib.hid NX.out.pr
          clear CB11'
          have hlnb : ln ≤ 1500 := by rw [← HLN.out]; exact HSZ.out.fb
          go_wp2
          go_loopw [10, 122] (fun _ iv wr => ∃ (i : Nat) (l : List UInt8), iv = .int .i64 i ∧ i ≤ ln ∧ Hid (l.length = ln) ∧ Hid (OwnB wr wo.heap.size 5 (.slice A9 ln c9) l) ∧ Hid (PR w wr tb mb M2 rb v2 N2) ∧ Hid (CB wr bx 31 [.int .i64 ok, .int .i64 om, .string ow, .string opt, .string oo, .slice V ln c])) (fun _ iv _ => ln - (intOf iv).toNat)
          case atStart => exact ⟨0, ofb, rfl, Nat.zero_le _, HLN.out, O11.out, P11.out, CB11.out⟩
          case round =>
            obtain ⟨i, l, rfl, hi, HL, HO, HPI, HCI⟩ := hrel
            by_cases hlt2 : i < ln
            · have hii : (i : Int) < (ln : Int) := by omega
              obtain ⟨g, cs, hA, hcb, hic, hgb, hset⟩ := spoil_at HO.out HL.out hlt2
              subst hA
              have HSET := Lib.hid hset
              have HCB := Lib.hid hcb
              have q0 := hcb.at_ (i := i) (List.getElem?_eq_getElem hic)
              have f0 := hcb.free i
              have NB2 := Lib.hid (NB.out g rfl)
              clear hset hcb hgb
              go_wp2
              go_roundw
              case rel => exact ⟨i + 1, l.set i 238, by go_num, by omega, by rw [List.length_set]; exact HL.out, HSET.out _ (HCB.out.set_ i _), HPI.out.spoil NB2.out.1 NB2.out.2.1 HCB.out (grownC_set _ _ _ _) NB2.out.2.2, HCI.out.grown (grownC_set _ _ _ _) (cb_neT HCI.out HCB.out (by decide))⟩
              case measure => simp [intOf]; omega
            · have hii : ¬ (i : Int) < (ln : Int) := by omega
              obtain ⟨w13, hw13⟩ : ∃ x, x = wr := ⟨_, rfl⟩
              rw [← hw13] at HPI HCI ⊢
              clear hw13
              have P13 := Lib.hid HPI.out
              have CB13 := Lib.hid HCI.out
              obtain ⟨nn, hnn⟩ : ∃ nn, N2.length = nn := ⟨_, rfl⟩
              have HNN := Lib.hid hnn
              obtain ⟨A2, c2, hv2, -⟩ := P13.out.rt.open_
              rw [hnn] at hv2
              have HSR := Lib.hid (fun (wx : World) (hx : w13.grownBy wx none) => sr_of (show RowX wx 0 63 5 (.slice A2 nn c2) (N2.map ndC) by have h := (P13.out.grown hx).rt.row; rw [hv2] at h; exact h))
              have HCT := Lib.hid (fun (wx : World) (hx : w13.grownBy wx none) => (P13.out.grown hx).rt.top.at_ (i := 0) (v := .slice A2 nn c2) (by rw [← hv2]; rfl))
              clear hnn hv2 HO HL HPI HCI
              go_wp2
              refine helds_begin (fun W => w13.grownBy W none) (by kernel_rfl) (drewN_grown w13 1) (fun _ => ?_)
              refine helds_take (i := 0) (d := some 129) (v := ?vUR6Z_1) (by assumption) rfl rfl (by kernel_rfl) (fun _ _ _ h => h) ?yUR6Z_1 ?_; case yUR6Z_1 => (refine Or.inl ⟨rfl, fun wx hS => ?_⟩; go_simp; try with_reducible rfl)
              try simp only [Act.put, List.setIfInBounds_toArray, List.set_cons_zero, List.set_cons_succ]
              refine helds_take (i := 1) (d := some 130) (v := ?vUR6Z_2) (by assumption) rfl rfl (by kernel_rfl) (fun _ _ _ h => h) ?yUR6Z_2 ?_; case yUR6Z_2 => (refine Or.inl ⟨rfl, fun wx hS => ?_⟩; go_simp; try with_reducible rfl)
              try simp only [Act.put, List.setIfInBounds_toArray, List.set_cons_zero, List.set_cons_succ]
              refine helds_take (i := 2) (d := some 131) (v := ?vUR6Z_3) (by assumption) rfl rfl (by kernel_rfl) (fun _ _ _ h => h) ?yUR6Z_3 ?_; case yUR6Z_3 => (refine Or.inl ⟨rfl, fun wx hS => ?_⟩; go_simp; try with_reducible rfl)
              try simp only [Act.put, List.setIfInBounds_toArray, List.set_cons_zero, List.set_cons_succ]
              refine helds_take (i := 3) (d := some 132) (v := ?vUR6Z_4) (by assumption) rfl rfl (by kernel_rfl) (fun _ _ _ h => h) ?yUR6Z_4 ?_; case yUR6Z_4 => (refine Or.inl ⟨rfl, fun wx hS => ?_⟩; go_simp; try with_reducible rfl)
              try simp only [Act.put, List.setIfInBounds_toArray, List.set_cons_zero, List.set_cons_succ]
              refine helds_take (i := 4) (d := some 133) (v := ?vUR6Z_5) (by assumption) rfl rfl (by kernel_rfl) (fun _ _ _ h => h) ?yUR6Z_5 ?_; case yUR6Z_5 => (refine Or.inl ⟨rfl, fun wx hS => ?_⟩; go_simp; try with_reducible rfl)
              try simp only [Act.put, List.setIfInBounds_toArray, List.set_cons_zero, List.set_cons_succ]
              refine helds_take (i := 5) (d := some 134) (v := ?vUR6Z_6) (by assumption) rfl rfl (by kernel_rfl) (fun _ _ _ h => h) ?yUR6Z_6 ?_; case yUR6Z_6 => (refine Or.inl ⟨rfl, fun wx hS => ?_⟩; go_simp; try with_reducible rfl)
              try simp only [Act.put, List.setIfInBounds_toArray, List.set_cons_zero, List.set_cons_succ]
              refine helds_take (i := 6) (d := some 135) (v := _) (by assumption) rfl rfl (by kernel_rfl) (fun _ _ _ h => h) (yields_loadX (p := [.int .i64 ok, .int .i64 om, .string ow, .string opt, .string oo, .slice V ln c]) (b := bx) (off := 0) aggOp (.tmp 6) rfl rfl (fun wx hS j u hj => by rw [Nat.zero_add]; exact (CB13.out.kept hS).at_ hj) rfl (by first | rfl | go_simp)) ?_
              try simp only [Act.put, List.setIfInBounds_toArray, List.set_cons_zero, List.set_cons_succ]
              refine helds_one (i := 7) rfl (by kernel_rfl) rfl (fun K hK => ?_)
              refine wp_callU (d := some 136) (f := 27) (args := #[.pointer (some ⟨tb, 0, none⟩), .pointer (some ⟨rb, 0, none⟩), .agg #[.int .i64 ok, .int .i64 om, .string ow, .string opt, .string oo, .slice V ln c]]) rfl (by first | rfl | go_simp) ?_
              refine (look_any w w13.drew tb mb rb v2 M2 N2 (P13.out.grown (drewN_grown w13 1)) ok om ow opt oo (.slice V ln c) (by rw [HP.out]; exact HPL.out)).mono ?_
              rintro e w14 ⟨rfl, g14⟩
              refine ⟨_, rfl, ?_⟩
              have hS14 : w13.grownBy w14 none := grown_trans' (drewN_grown w13 1) g14
              clear g14
              refine hK.out _ _ (by assumption) (fun _ => ?_)
              clear hK K
              try simp only [Act.put, List.setIfInBounds_toArray, List.set_cons_zero, List.set_cons_succ]
              refine helds_take (i := 8) (d := some 137) (v := ?vUR6Z_8) (by assumption) rfl rfl (by kernel_rfl) (fun _ _ _ h => h) ?yUR6Z_8 ?_; case yUR6Z_8 => (refine Or.inl ⟨rfl, fun wx hS => ?_⟩; go_simp; try with_reducible rfl)
              try simp only [Act.put, List.setIfInBounds_toArray, List.set_cons_zero, List.set_cons_succ]
              refine helds_take (i := 9) (d := some 138) (v := ?vUR6Z_9) (by assumption) rfl rfl (by kernel_rfl) (fun _ _ _ h => h) ?yUR6Z_9 ?_; case yUR6Z_9 => (refine Or.inl ⟨rfl, fun wx hS => ?_⟩; go_simp; try with_reducible rfl)
              try simp only [Act.put, List.setIfInBounds_toArray, List.set_cons_zero, List.set_cons_succ]
              refine helds_take (i := 10) (d := some 139) (v := ?vUR6Z_10) (by assumption) rfl rfl (by kernel_rfl) (fun _ _ _ h => h) ?yUR6Z_10 ?_; case yUR6Z_10 => (refine Or.inl ⟨rfl, fun wx hS => ?_⟩; go_simp; try with_reducible rfl)
              try simp only [Act.put, List.setIfInBounds_toArray, List.set_cons_zero, List.set_cons_succ]
              refine helds_take (i := 11) (d := some 140) (v := ?vUR6Z_11) (by assumption) rfl rfl (by kernel_rfl) (fun _ _ _ h => h) ?yUR6Z_11 ?_; case yUR6Z_11 => (refine Or.inl ⟨rfl, fun wx hS => ?_⟩; go_simp; try with_reducible rfl)
              try simp only [Act.put, List.setIfInBounds_toArray, List.set_cons_zero, List.set_cons_succ]
              refine helds_take (i := 13) (d := some 142) (v := ?vUR6Z_12) (by assumption) rfl rfl (by kernel_rfl) (fun _ _ _ h => h) ?yUR6Z_12 ?_; case yUR6Z_12 => (refine Or.inl ⟨rfl, fun wx hS => ?_⟩; go_simp; try with_reducible rfl)
              try simp only [Act.put, List.setIfInBounds_toArray, List.set_cons_zero, List.set_cons_succ]
              refine helds_take (i := 14) (d := some 143) (v := ?vUR6Z_13) (by assumption) rfl rfl (by kernel_rfl) (fun _ _ _ h => h) ?yUR6Z_13 ?_; case yUR6Z_13 => (refine Or.inl ⟨rfl, fun wx hS => ?_⟩; go_simp; try with_reducible rfl)
              try simp only [Act.put, List.setIfInBounds_toArray, List.set_cons_zero, List.set_cons_succ]
              refine helds_take (i := 15) (d := some 144) (v := ?vUR6Z_14) (by assumption) rfl rfl (by kernel_rfl) (fun _ _ _ h => h) ?yUR6Z_14 ?_; case yUR6Z_14 => (refine Or.inl ⟨rfl, fun wx hS => ?_⟩; go_simp; try with_reducible rfl)
              try simp only [Act.put, List.setIfInBounds_toArray, List.set_cons_zero, List.set_cons_succ]
              refine helds_take (i := 16) (d := some 145) (v := ?vUR6Z_15) (by assumption) rfl rfl (by kernel_rfl) (fun _ _ _ h => h) ?yUR6Z_15 ?_; case yUR6Z_15 => (refine Or.inl ⟨rfl, fun wx hS => ?_⟩; have hk := HCT.out wx hS; go_simp; try with_reducible rfl)
              try simp only [Act.put, List.setIfInBounds_toArray, List.set_cons_zero, List.set_cons_succ]
              refine helds_one (i := 12) rfl (by kernel_rfl) rfl (fun K hK => ?_)
              refine wp_callU (d := some 141) (f := 29) (args := #[.pointer (some ⟨tb, 0, none⟩)]) rfl (by first | rfl | go_simp) ?_
              refine (nodes_any w14 tb mb M2 (P13.out.grown hS14).tg.ts (by have := P13.out.snd.len; omega) P13.out.snd.short).mono ?_
              rintro e w15 ⟨v15, ks, cs, rfl, hks, hrow, hat, g15⟩
              refine ⟨_, rfl, ?_⟩
              have hS15 : w13.grownBy w15 none := grown_trans' hS14 g15
              obtain ⟨al, hcl⟩ := nodes_alike (P13.out.grown hS14) hks hat g15
              obtain ⟨A15, c15, hv15, sr15, -⟩ := hrow.shape
              rw [hcl, HNN.out] at hv15
              subst hv15
              have AL15 := Lib.hid al
              have HCL := Lib.hid hcl
              have SR15 := Lib.hid sr15
              clear hks hrow hat g15 al hcl sr15
              refine hK.out _ _ (by assumption) (fun _ => ?_)
              clear hK K
              try simp only [Act.put, List.setIfInBounds_toArray, List.set_cons_zero, List.set_cons_succ]
              refine helds_one (i := 17) rfl (by kernel_rfl) rfl (fun K hK => ?_)
              refine wp_callU (d := some 146) (f := 28) (args := #[.slice A15 nn c15, .slice A2 nn c2]) rfl (by first | rfl | go_simp) ?_
              refine (same_true w15 A15 A2 nn c15 c2 cs (N2.map ndC) (HCL.out.trans HNN.out) (by rw [List.length_map]; exact HNN.out) SR15.out (HSR.out w15 hS15) AL15.out).mono ?_
              rintro e w16 ⟨rfl, g16⟩
              refine ⟨_, rfl, ?_⟩
              have hS16 : w13.grownBy w16 none := grown_trans' hS15 g16
              have GE := Lib.hid hS16
              clear g16
              refine hK.out _ _ (by assumption) (fun _ => ?_)
              clear hK K
              try simp only [Act.put, List.setIfInBounds_toArray, List.set_cons_zero, List.set_cons_succ]
              refine helds_take (i := 18) (d := some 147) (v := ?vUR6Z_16) (by assumption) rfl rfl (by kernel_rfl) (fun _ _ _ h => h) ?yUR6Z_16 ?_; case yUR6Z_16 => (refine Or.inl ⟨rfl, fun wx hS => ?_⟩; go_simp; try with_reducible rfl)
              try simp only [Act.put, List.setIfInBounds_toArray, List.set_cons_zero, List.set_cons_succ]
              refine helds_take (i := 19) (d := some 148) (v := ?vUR6Z_17) (by assumption) rfl rfl (by kernel_rfl) (fun _ _ _ h => h) ?yUR6Z_17 ?_; case yUR6Z_17 => (refine Or.inl ⟨rfl, fun wx hS => ?_⟩; go_simp; try with_reducible rfl)
              try simp only [Act.put, List.setIfInBounds_toArray, List.set_cons_zero, List.set_cons_succ]
              refine held_end (by kernel_rfl) ?_ _
              go_wp2
              go_roundw
              case rel => exact ⟨k + 1, M2, v2, N2, by go_num, by omega, P13.out.grown GE.out⟩
              case measure => simp [intOf]; omega
        · go_wp2_with (first
                      | (at_builtin
                         rw [show wr.alloc (.cells #[.int .i64 ok, .int .i64 om, .string ow, .string opt, .string oo, .slice V ln c] 31) = wo from HWO.out.symm, HWZ.out, ← HBX.out]
                         refine wpList_appB byteT rfl (.tmp 25) (.tmp 27) rfl (OwnB.new0 wo wo.heap.size 5 (Nat.le_refl _)) (HRBO.out.alloc (Nat.le_refl _) _) (by first | rfl | go_simp) (by rw [HLN.out]; first | rfl | go_simp) (by have h9 : ofb.length ≤ 1500 := HSZ.out.fb; simp; omega) (by rw [World.size_alloc]; omega) ?_
                         intro v9 w9 o9 g9 _ a9
                         rw [List.nil_append] at o9
                         have G9 := Lib.hid (fresh_grown rfl (World.grownBy.refl wo none) g9)
                         obtain ⟨A9, c9, hv9, r9, -⟩ := o9.shape
                         rw [HLN.out] at hv9
                         subst hv9
                         have O9 := Lib.hid o9
                         have RB9 := Lib.hid (show RB w9.drew w9.drew.heap.size A9 ofb c9 from r9.drew)
                         have PRd := Lib.hid (show PR w w9.drew tb mb M rb v N from PRO.out.grown (grown_drew G9.out))
                         have hS9 : CB w9.drew bx 31 [.int .i64 ok, .int .i64 om, .string ow, .string opt, .string oo, .slice V ln c] := (CBO.out.kept G9.out).drew
                         have c0 := (CBO.out.kept G9.out).at_ (i := 0) (v := .int .i64 ok) rfl
                         clear o9 g9 a9 r9))
          refine helds_begin (fun W => CB W bx 31 [.int .i64 ok, .int .i64 om, .string ow, .string opt, .string oo, .slice V ln c]) (by kernel_rfl) (by assumption) (fun _ => ?_)
          refine helds_take (i := 0) (d := some 32) (v := ?vUR7_1) (by assumption) rfl rfl (by kernel_rfl) (fun _ _ _ h => h) ?yUR7_1 ?_; case yUR7_1 => (refine Or.inl ⟨rfl, fun wx hS => ?_⟩; go_simp; try with_reducible rfl)
          try simp only [Act.put, List.setIfInBounds_toArray, List.set_cons_zero, List.set_cons_succ]
          refine helds_take (i := 1) (d := some 33) (v := ?vUR7_2) (by assumption) rfl rfl (by kernel_rfl) (fun _ _ _ h => h) ?yUR7_2 ?_; case yUR7_2 => (refine Or.inl ⟨rfl, fun wx hS => ?_⟩; go_simp; try with_reducible rfl)
          try simp only [Act.put, List.setIfInBounds_toArray, List.set_cons_zero, List.set_cons_succ]
          refine helds_take (i := 2) (d := some 34) (v := ?vUR7_3) (by assumption) rfl rfl (by kernel_rfl) (fun _ _ _ h => h) ?yUR7_3 ?_; case yUR7_3 => (refine Or.inl ⟨rfl, fun wx hS => ?_⟩; have hk := HC2.out wx hS; go_simp; try with_reducible rfl)
          try simp only [Act.put, List.setIfInBounds_toArray, List.set_cons_zero, List.set_cons_succ]
          refine helds_take (i := 3) (d := some 35) (v := ?vUR7_4) (by assumption) rfl rfl (by kernel_rfl) (fun _ _ _ h => h) ?yUR7_4 ?_; case yUR7_4 => (refine Or.inl ⟨rfl, fun wx hS => ?_⟩; go_simp; try with_reducible rfl)
          try simp only [Act.put, List.setIfInBounds_toArray, List.set_cons_zero, List.set_cons_succ]
          refine helds_take (i := 4) (d := some 36) (v := ?vUR7_5) (by assumption) rfl rfl (by kernel_rfl) (fun _ _ _ h => h) ?yUR7_5 ?_; case yUR7_5 => (refine Or.inl ⟨rfl, fun wx hS => ?_⟩; have hk := HC3.out wx hS; go_simp; try with_reducible rfl)
          try simp only [Act.put, List.setIfInBounds_toArray, List.set_cons_zero, List.set_cons_succ]
          refine helds_take (i := 5) (d := some 37) (v := ?vUR7_6) (by assumption) rfl rfl (by kernel_rfl) (fun _ _ _ h => h) ?yUR7_6 ?_; case yUR7_6 => (refine Or.inl ⟨rfl, fun wx hS => ?_⟩; go_simp; try with_reducible rfl)
          try simp only [Act.put, List.setIfInBounds_toArray, List.set_cons_zero, List.set_cons_succ]
          refine helds_take (i := 6) (d := some 38) (v := ?vUR7_7) (by assumption) rfl rfl (by kernel_rfl) (fun _ _ _ h => h) ?yUR7_7 ?_; case yUR7_7 => (refine Or.inl ⟨rfl, fun wx hS => ?_⟩; go_simp; try with_reducible rfl)
          try simp only [Act.put, List.setIfInBounds_toArray, List.set_cons_zero, List.set_cons_succ]
          refine helds_take (i := 7) (d := some 39) (v := ?vUR7_8) (by assumption) rfl rfl (by kernel_rfl) (fun _ _ _ h => h) ?yUR7_8 ?_; case yUR7_8 => (refine Or.inl ⟨rfl, fun wx hS => ?_⟩; have hk := HC1.out wx hS; go_simp; try with_reducible rfl)
          try simp only [Act.put, List.setIfInBounds_toArray, List.set_cons_zero, List.set_cons_succ]
          refine helds_take (i := 9) (d := some 41) (v := ?vUR7_9) (by assumption) rfl rfl (by kernel_rfl) (fun _ _ _ h => h) ?yUR7_9 ?_; case yUR7_9 => (refine Or.inl ⟨rfl, fun wx hS => ?_⟩; go_simp; try with_reducible rfl)
          try simp only [Act.put, List.setIfInBounds_toArray, List.set_cons_zero, List.set_cons_succ]
          refine helds_take (i := 10) (d := some 42) (v := ?vUR7_10) (by assumption) rfl rfl (by kernel_rfl) (fun _ _ _ h => h) ?yUR7_10 ?_; case yUR7_10 => (refine Or.inl ⟨rfl, fun wx hS => ?_⟩; go_simp; try with_reducible rfl)
          try simp only [Act.put, List.setIfInBounds_toArray, List.set_cons_zero, List.set_cons_succ]
          refine helds_take (i := 11) (d := some 43) (v := ?vUR7_11) (by assumption) rfl rfl (by kernel_rfl) (fun _ _ _ h => h) ?yUR7_11 ?_; case yUR7_11 => (refine Or.inl ⟨rfl, fun wx hS => ?_⟩; have hk := HC2.out wx hS; go_simp; try with_reducible rfl)
          try simp only [Act.put, List.setIfInBounds_toArray, List.set_cons_zero, List.set_cons_succ]
          refine helds_take (i := 12) (d := some 44) (v := ?vUR7_12) (by assumption) rfl rfl (by kernel_rfl) (fun _ _ _ h => h) ?yUR7_12 ?_; case yUR7_12 => (refine Or.inl ⟨rfl, fun wx hS => ?_⟩; go_simp; try with_reducible rfl)
          try simp only [Act.put, List.setIfInBounds_toArray, List.set_cons_zero, List.set_cons_succ]
          refine helds_take (i := 13) (d := some 45) (v := ?vUR7_13) (by assumption) rfl rfl (by kernel_rfl) (fun _ _ _ h => h) ?yUR7_13 ?_; case yUR7_13 => (refine Or.inl ⟨rfl, fun wx hS => ?_⟩; have hk := HC3.out wx hS; go_simp; try with_reducible rfl)
          try simp only [Act.put, List.setIfInBounds_toArray, List.set_cons_zero, List.set_cons_succ]
          refine helds_take (i := 14) (d := some 46) (v := ?vUR7_14) (by assumption) rfl rfl (by kernel_rfl) (fun _ _ _ h => h) ?yUR7_14 ?_; case yUR7_14 => (refine Or.inl ⟨rfl, fun wx hS => ?_⟩; go_simp; try with_reducible rfl)
          try simp only [Act.put, List.setIfInBounds_toArray, List.set_cons_zero, List.set_cons_succ]
          refine helds_take (i := 15) (d := some 47) (v := ?vUR7_15) (by assumption) rfl rfl (by kernel_rfl) (fun _ _ _ h => h) ?yUR7_15 ?_; case yUR7_15 => (refine Or.inl ⟨rfl, fun wx hS => ?_⟩; have hk := HC5.out wx hS; go_simp; try with_reducible rfl)
          try simp only [Act.put, List.setIfInBounds_toArray, List.set_cons_zero, List.set_cons_succ]
          refine helds_take (i := 16) (d := some 48) (v := ?vUR7_16) (by assumption) rfl rfl (by kernel_rfl) (fun _ _ _ h => h) ?yUR7_16 ?_; case yUR7_16 => (refine Or.inl ⟨rfl, fun wx hS => ?_⟩; go_simp; try with_reducible rfl)
          try simp only [Act.put, List.setIfInBounds_toArray, List.set_cons_zero, List.set_cons_succ]
          refine helds_take (i := 17) (d := some 49) (v := ?vUR7_17) (by assumption) rfl rfl (by kernel_rfl) (fun _ _ _ h => h) ?yUR7_17 ?_; case yUR7_17 => (refine Or.inl ⟨rfl, fun wx hS => ?_⟩; have hk := HC1.out wx hS; go_simp; try with_reducible rfl)
          try simp only [Act.put, List.setIfInBounds_toArray, List.set_cons_zero, List.set_cons_succ]
          refine helds_one (i := 8) rfl (by kernel_rfl) rfl (fun K hK => ?_)
          refine wp_callU (d := some 40) (f := 25) (args := #[.pointer (some ⟨tb, 0, none⟩), .string ow, .string opt, .slice A9 ln c9, .int .i64 om]) rfl (by first | rfl | go_simp) ?_
          refine (p_write PRd.out.tg PRd.out.snd ow opt HOW.out p HP.out HPL.out A9 ofb ln c9 HLN.out RB9.out om).mono ?_
          rintro e w10 ⟨rfl, dd⟩
          refine ⟨_, rfl, ?_⟩
          have DD := Lib.hid dd
          have hS10 : CB w10 bx 31 [.int .i64 ok, .int .i64 om, .string ow, .string opt, .string oo, .slice V ln c] := dd.cb PRd.out.tg.ts hS9 (by decide)
          clear dd
          refine hK.out _ _ (by assumption) (fun _ => ?_)
          clear hK K
          try simp only [Act.put, List.setIfInBounds_toArray, List.set_cons_zero, List.set_cons_succ]
          refine helds_one (i := 18) rfl (by kernel_rfl) rfl (fun K hK => ?_)
          refine wp_callU (d := some 50) (f := 26) (args := #[.pointer (some ⟨rb, 0, none⟩), .string ow, .string opt, .slice V ln c, .int .i64 om]) rfl (by first | rfl | go_simp) ?_
          have RB10 := Lib.hid (show RB w10 w10.heap.size V ofb c from by obtain ⟨M', mid, -⟩ := PRd.out.prog DD.out; exact (HRV.out.below (below_of_none mid.tg.gr)).more mid.tg.gr.size)
          refine (q_write PRd.out ow opt HP.out HPL.out V ofb ln c HLN.out RB10.out om DD.out).mono ?_
          rintro e w11 ⟨rfl, dd2⟩
          refine ⟨_, rfl, ?_⟩
          obtain ⟨M2, v2, N2, nx⟩ := dd2
          have hS11 : CB w11 bx 31 [.int .i64 ok, .int .i64 om, .string ow, .string opt, .string oo, .slice V ln c] := nx.cb _ _ _ hS9 (by decide) (by decide)
          have NX := Lib.hid nx
          have CB11 := Lib.hid hS11
          clear nx
          refine hK.out _ _ (by assumption) (fun _ => ?_)
          clear hK K
          try simp only [Act.put, List.setIfInBounds_toArray, List.set_cons_zero, List.set_cons_succ]
          refine helds_take (i := 19) (d := some 7) (v := ?vUR7_18) (by assumption) rfl rfl (by kernel_rfl) (fun _ _ _ h => h) ?yUR7_18 ?_; case yUR7_18 => (refine Or.inl ⟨rfl, fun wx hS => ?_⟩; go_simp; try with_reducible rfl)
          try simp only [Act.put, List.setIfInBounds_toArray, List.set_cons_zero, List.set_cons_succ]
          refine helds_take (i := 20) (d := some 8) (v := ?vUR7_19) (by assumption) rfl rfl (by kernel_rfl) (fun _ _ _ h => h) ?yUR7_19 ?_; case yUR7_19 => (refine Or.inl ⟨rfl, fun wx hS => ?_⟩; go_simp; try with_reducible rfl)
          try simp only [Act.put, List.setIfInBounds_toArray, List.set_cons_zero, List.set_cons_succ]
          refine held_end (by kernel_rfl) ?_ _
          have CB11' := CB11.out
          have O11 := Lib.hid (show OwnB w11 wo.heap.size 5 (.slice A9 ln c9) ofb from own_base (NX.out.keep _ _ (OwnB.base_ (show OwnB w9.drew wo.heap.size 5 (.slice A9 ln c9) ofb from O9.out) (Nat.zero_le _))) O9.out)
          have NB := Lib.hid (show ∀ g, (Value.slice A9 ln c9).ownBlock = some g → NoB g M2 ∧ NoB g N2 ∧ w.heap.size ≤ g from fun g hg => by
            have h1 := O9.out.lt g hg
            have h2 := PRO.out.fresh h1.1
            have h3 := NX.out.nob g h1.2 h2.1 h2.2
            exact ⟨h3.1, h3.2, Nat.le_trans PRO.out.tg.gr.size h1.1⟩)
          have P11 := Lib.hid NX.out.pr
          clear CB11'
          have hlnb : ln ≤ 1500 := by rw [← HLN.out]; exact HSZ.out.fb
          go_wp2
          go_loopw [10, 122] (fun _ iv wr => ∃ (i : Nat) (l : List UInt8), iv = .int .i64 i ∧ i ≤ ln ∧ Hid (l.length = ln) ∧ Hid (OwnB wr wo.heap.size 5 (.slice A9 ln c9) l) ∧ Hid (PR w wr tb mb M2 rb v2 N2) ∧ Hid (CB wr bx 31 [.int .i64 ok, .int .i64 om, .string ow, .string opt, .string oo, .slice V ln c])) (fun _ iv _ => ln - (intOf iv).toNat)
          case atStart => exact ⟨0, ofb, rfl, Nat.zero_le _, HLN.out, O11.out, P11.out, CB11.out⟩
          case round =>
            obtain ⟨i, l, rfl, hi, HL, HO, HPI, HCI⟩ := hrel
            by_cases hlt2 : i < ln
            · have hii : (i : Int) < (ln : Int) := by omega
              obtain ⟨g, cs, hA, hcb, hic, hgb, hset⟩ := spoil_at HO.out HL.out hlt2
              subst hA
              have HSET := Lib.hid hset
              have HCB := Lib.hid hcb
              have q0 := hcb.at_ (i := i) (List.getElem?_eq_getElem hic)
              have f0 := hcb.free i
              have NB2 := Lib.hid (NB.out g rfl)
              clear hset hcb hgb
              go_wp2
              go_roundw
              case rel => exact ⟨i + 1, l.set i 238, by go_num, by omega, by rw [List.length_set]; exact HL.out, HSET.out _ (HCB.out.set_ i _), HPI.out.spoil NB2.out.1 NB2.out.2.1 HCB.out (grownC_set _ _ _ _) NB2.out.2.2, HCI.out.grown (grownC_set _ _ _ _) (cb_neT HCI.out HCB.out (by decide))⟩
              case measure => simp [intOf]; omega
            · have hii : ¬ (i : Int) < (ln : Int) := by omega
              obtain ⟨w13, hw13⟩ : ∃ x, x = wr := ⟨_, rfl⟩
              rw [← hw13] at HPI HCI ⊢
              clear hw13
              have P13 := Lib.hid HPI.out
              have CB13 := Lib.hid HCI.out
              obtain ⟨nn, hnn⟩ : ∃ nn, N2.length = nn := ⟨_, rfl⟩
              have HNN := Lib.hid hnn
              obtain ⟨A2, c2, hv2, -⟩ := P13.out.rt.open_
              rw [hnn] at hv2
              have HSR := Lib.hid (fun (wx : World) (hx : w13.grownBy wx none) => sr_of (show RowX wx 0 63 5 (.slice A2 nn c2) (N2.map ndC) by have h := (P13.out.grown hx).rt.row; rw [hv2] at h; exact h))
              have HCT := Lib.hid (fun (wx : World) (hx : w13.grownBy wx none) => (P13.out.grown hx).rt.top.at_ (i := 0) (v := .slice A2 nn c2) (by rw [← hv2]; rfl))
              clear hnn hv2 HO HL HPI HCI
              go_wp2
              refine helds_begin (fun W => w13.grownBy W none) (by kernel_rfl) (drewN_grown w13 1) (fun _ => ?_)
              refine helds_take (i := 0) (d := some 129) (v := ?vUR7Z_1) (by assumption) rfl rfl (by kernel_rfl) (fun _ _ _ h => h) ?yUR7Z_1 ?_; case yUR7Z_1 => (refine Or.inl ⟨rfl, fun wx hS => ?_⟩; go_simp; try with_reducible rfl)
              try simp only [Act.put, List.setIfInBounds_toArray, List.set_cons_zero, List.set_cons_succ]
              refine helds_take (i := 1) (d := some 130) (v := ?vUR7Z_2) (by assumption) rfl rfl (by kernel_rfl) (fun _ _ _ h => h) ?yUR7Z_2 ?_; case yUR7Z_2 => (refine Or.inl ⟨rfl, fun wx hS => ?_⟩; go_simp; try with_reducible rfl)
              try simp only [Act.put, List.setIfInBounds_toArray, List.set_cons_zero, List.set_cons_succ]
              refine helds_take (i := 2) (d := some 131) (v := ?vUR7Z_3) (by assumption) rfl rfl (by kernel_rfl) (fun _ _ _ h => h) ?yUR7Z_3 ?_; case yUR7Z_3 => (refine Or.inl ⟨rfl, fun wx hS => ?_⟩; go_simp; try with_reducible rfl)
              try simp only [Act.put, List.setIfInBounds_toArray, List.set_cons_zero, List.set_cons_succ]
              refine helds_take (i := 3) (d := some 132) (v := ?vUR7Z_4) (by assumption) rfl rfl (by kernel_rfl) (fun _ _ _ h => h) ?yUR7Z_4 ?_; case yUR7Z_4 => (refine Or.inl ⟨rfl, fun wx hS => ?_⟩; go_simp; try with_reducible rfl)
              try simp only [Act.put, List.setIfInBounds_toArray, List.set_cons_zero, List.set_cons_succ]
              refine helds_take (i := 4) (d := some 133) (v := ?vUR7Z_5) (by assumption) rfl rfl (by kernel_rfl) (fun _ _ _ h => h) ?yUR7Z_5 ?_; case yUR7Z_5 => (refine Or.inl ⟨rfl, fun wx hS => ?_⟩; go_simp; try with_reducible rfl)
              try simp only [Act.put, List.setIfInBounds_toArray, List.set_cons_zero, List.set_cons_succ]
              refine helds_take (i := 5) (d := some 134) (v := ?vUR7Z_6) (by assumption) rfl rfl (by kernel_rfl) (fun _ _ _ h => h) ?yUR7Z_6 ?_; case yUR7Z_6 => (refine Or.inl ⟨rfl, fun wx hS => ?_⟩; go_simp; try with_reducible rfl)
              try simp only [Act.put, List.setIfInBounds_toArray, List.set_cons_zero, List.set_cons_succ]
              refine helds_take (i := 6) (d := some 135) (v := _) (by assumption) rfl rfl (by kernel_rfl) (fun _ _ _ h => h) (yields_loadX (p := [.int .i64 ok, .int .i64 om, .string ow, .string opt, .string oo, .slice V ln c]) (b := bx) (off := 0) aggOp (.tmp 6) rfl rfl (fun wx hS j u hj => by rw [Nat.zero_add]; exact (CB13.out.kept hS).at_ hj) rfl (by first | rfl | go_simp)) ?_
              try simp only [Act.put, List.setIfInBounds_toArray, List.set_cons_zero, List.set_cons_succ]
              refine helds_one (i := 7) rfl (by kernel_rfl) rfl (fun K hK => ?_)
              refine wp_callU (d := some 136) (f := 27) (args := #[.pointer (some ⟨tb, 0, none⟩), .pointer (some ⟨rb, 0, none⟩), .agg #[.int .i64 ok, .int .i64 om, .string ow, .string opt, .string oo, .slice V ln c]]) rfl (by first | rfl | go_simp) ?_
              refine (look_any w w13.drew tb mb rb v2 M2 N2 (P13.out.grown (drewN_grown w13 1)) ok om ow opt oo (.slice V ln c) (by rw [HP.out]; exact HPL.out)).mono ?_
              rintro e w14 ⟨rfl, g14⟩
              refine ⟨_, rfl, ?_⟩
              have hS14 : w13.grownBy w14 none := grown_trans' (drewN_grown w13 1) g14
              clear g14
              refine hK.out _ _ (by assumption) (fun _ => ?_)
              clear hK K
              try simp only [Act.put, List.setIfInBounds_toArray, List.set_cons_zero, List.set_cons_succ]
              refine helds_take (i := 8) (d := some 137) (v := ?vUR7Z_8) (by assumption) rfl rfl (by kernel_rfl) (fun _ _ _ h => h) ?yUR7Z_8 ?_; case yUR7Z_8 => (refine Or.inl ⟨rfl, fun wx hS => ?_⟩; go_simp; try with_reducible rfl)
              try simp only [Act.put, List.setIfInBounds_toArray, List.set_cons_zero, List.set_cons_succ]
              refine helds_take (i := 9) (d := some 138) (v := ?vUR7Z_9) (by assumption) rfl rfl (by kernel_rfl) (fun _ _ _ h => h) ?yUR7Z_9 ?_; case yUR7Z_9 => (refine Or.inl ⟨rfl, fun wx hS => ?_⟩; go_simp; try with_reducible rfl)
              try simp only [Act.put, List.setIfInBounds_toArray, List.set_cons_zero, List.set_cons_succ]
              refine helds_take (i := 10) (d := some 139) (v := ?vUR7Z_10) (by assumption) rfl rfl (by kernel_rfl) (fun _ _ _ h => h) ?yUR7Z_10 ?_; case yUR7Z_10 => (refine Or.inl ⟨rfl, fun wx hS => ?_⟩; go_simp; try with_reducible rfl)
              try simp only [Act.put, List.setIfInBounds_toArray, List.set_cons_zero, List.set_cons_succ]
              refine helds_take (i := 11) (d := some 140) (v := ?vUR7Z_11) (by assumption) rfl rfl (by kernel_rfl) (fun _ _ _ h => h) ?yUR7Z_11 ?_; case yUR7Z_11 => (refine Or.inl ⟨rfl, fun wx hS => ?_⟩; go_simp; try with_reducible rfl)
              try simp only [Act.put, List.setIfInBounds_toArray, List.set_cons_zero, List.set_cons_succ]
              refine helds_take (i := 13) (d := some 142) (v := ?vUR7Z_12) (by assumption) rfl rfl (by kernel_rfl) (fun _ _ _ h => h) ?yUR7Z_12 ?_; case yUR7Z_12 => (refine Or.inl ⟨rfl, fun wx hS => ?_⟩; go_simp; try with_reducible rfl)
              try simp only [Act.put, List.setIfInBounds_toArray, List.set_cons_zero, List.set_cons_succ]
              refine helds_take (i := 14) (d := some 143) (v := ?vUR7Z_13) (by assumption) rfl rfl (by kernel_rfl) (fun _ _ _ h => h) ?yUR7Z_13 ?_; case yUR7Z_13 => (refine Or.inl ⟨rfl, fun wx hS => ?_⟩; go_simp; try with_reducible rfl)
              try simp only [Act.put, List.setIfInBounds_toArray, List.set_cons_zero, List.set_cons_succ]
              refine helds_take (i := 15) (d := some 144) (v := ?vUR7Z_14) (by assumption) rfl rfl (by kernel_rfl) (fun _ _ _ h => h) ?yUR7Z_14 ?_; case yUR7Z_14 => (refine Or.inl ⟨rfl, fun wx hS => ?_⟩; go_simp; try with_reducible rfl)
              try simp only [Act.put, List.setIfInBounds_toArray, List.set_cons_zero, List.set_cons_succ]
              refine helds_take (i := 16) (d := some 145) (v := ?vUR7Z_15) (by assumption) rfl rfl (by kernel_rfl) (fun _ _ _ h => h) ?yUR7Z_15 ?_; case yUR7Z_15 => (refine Or.inl ⟨rfl, fun wx hS => ?_⟩; have hk := HCT.out wx hS; go_simp; try with_reducible rfl)
              try simp only [Act.put, List.setIfInBounds_toArray, List.set_cons_zero, List.set_cons_succ]
              refine helds_one (i := 12) rfl (by kernel_rfl) rfl (fun K hK => ?_)
              refine wp_callU (d := some 141) (f := 29) (args := #[.pointer (some ⟨tb, 0, none⟩)]) rfl (by first | rfl | go_simp) ?_
              refine (nodes_any w14 tb mb M2 (P13.out.grown hS14).tg.ts (by have := P13.out.snd.len; omega) P13.out.snd.short).mono ?_
              rintro e w15 ⟨v15, ks, cs, rfl, hks, hrow, hat, g15⟩
              refine ⟨_, rfl, ?_⟩
              have hS15 : w13.grownBy w15 none := grown_trans' hS14 g15
              obtain ⟨al, hcl⟩ := nodes_alike (P13.out.grown hS14) hks hat g15
              obtain ⟨A15, c15, hv15, sr15, -⟩ := hrow.shape
              rw [hcl, HNN.out] at hv15
              subst hv15
              have AL15 := Lib.hid al
              have HCL := Lib.hid hcl
              have SR15 := Lib.hid sr15
              clear hks hrow hat g15 al hcl sr15
              refine hK.out _ _ (by assumption) (fun _ => ?_)
              clear hK K
              try simp only [Act.put, List.setIfInBounds_toArray, List.set_cons_zero, List.set_cons_succ]
              refine helds_one (i := 17) rfl (by kernel_rfl) rfl (fun K hK => ?_)
              refine wp_callU (d := some 146) (f := 28) (args := #[.slice A15 nn c15, .slice A2 nn c2]) rfl (by first | rfl | go_simp) ?_
              refine (same_true w15 A15 A2 nn c15 c2 cs (N2.map ndC) (HCL.out.trans HNN.out) (by rw [List.length_map]; exact HNN.out) SR15.out (HSR.out w15 hS15) AL15.out).mono ?_
              rintro e w16 ⟨rfl, g16⟩
              refine ⟨_, rfl, ?_⟩
              have hS16 : w13.grownBy w16 none := grown_trans' hS15 g16
              have GE := Lib.hid hS16
              clear g16
              refine hK.out _ _ (by assumption) (fun _ => ?_)
              clear hK K
              try simp only [Act.put, List.setIfInBounds_toArray, List.set_cons_zero, List.set_cons_succ]
              refine helds_take (i := 18) (d := some 147) (v := ?vUR7Z_16) (by assumption) rfl rfl (by kernel_rfl) (fun _ _ _ h => h) ?yUR7Z_16 ?_; case yUR7Z_16 => (refine Or.inl ⟨rfl, fun wx hS => ?_⟩; go_simp; try with_reducible rfl)
              try simp only [Act.put, List.setIfInBounds_toArray, List.set_cons_zero, List.set_cons_succ]
              refine helds_take (i := 19) (d := some 148) (v := ?vUR7Z_17) (by assumption) rfl rfl (by kernel_rfl) (fun _ _ _ h => h) ?yUR7Z_17 ?_; case yUR7Z_17 => (refine Or.inl ⟨rfl, fun wx hS => ?_⟩; go_simp; try with_reducible rfl)
              try simp only [Act.put, List.setIfInBounds_toArray, List.set_cons_zero, List.set_cons_succ]
              refine held_end (by kernel_rfl) ?_ _
              go_wp2
              go_roundw
              case rel => exact ⟨k + 1, M2, v2, N2, by go_num, by omega, P13.out.grown GE.out⟩
              case measure => simp [intOf]; omega
      · have hki : ¬ (k : Int) < (n1 : Int) := by omega
        go_wp2
        go_ret
        exact ⟨rfl, below_of_none HPR.out.tg.gr⟩
end Go.Proofs.YtjonnamemmleiaaGreatDoor
