/- The walks of slices.Grow, slices.Concat; of about, Send, Is, Reply. -/
import Derived.Test.YtcfhpoigfkljpaaTll
import Derived.Test.YtcfhpoigfkljpaaTlk
import Derived.Lib.AppendZerosOnto
namespace Go.Proofs.Ytcfhpoigfkljpaa
open Go.ChangeShapes Go.WideShapes Go.RowKit
set_option linter.unusedVariables false

def zeros (n : Nat) : List UInt8 := List.replicate n 0
theorem zeros_length (n : Nat) : (zeros n).length = n := by simp [zeros]
theorem zeroCells_u8 (k : Nat) : Builtin.zeroCells (Value.int .u8 0).cells k = (bcells (zeros k)).toArray := by
  apply Array.ext
  · simp [Builtin.zeroCells, Value.cells, bcells, zeros]
  · intro i h1 h2
    simp [Builtin.zeroCells, Value.cells, bcells, zeros, Nat.mod_one]

theorem run_appZ {P : Program} {w : World} {t tn e : TypeId} (hT : ByteT P t e) (htn : P.underlying tn = some (.int .i64)) (ty : TypeId) {base : Nat} {v : Value} {l : List UInt8} (hown : OwnB w base e v l)
    (k : Nat) (hlen : l.length + k ≤ 70368744177664) (hbase : base ≤ w.heap.size) :
    ∃ v' w', (Builtin.append_ #[t, tn] ty #[v, .int .i64 k]).run P w = .ok v' w' ∧ OwnB w' base e v' (l ++ zeros k) ∧ w.grownBy w' v.ownBlock ∧ (v'.ownBlock = v.ownBlock ∨ v'.ownBlock = some w.heap.size) := by
  obtain ⟨i0, hi, hz0, hz1, hz2⟩ := info_parts hT.hi
  have hneg : ¬ ((k : Int) < 0) := by omega
  have hw : IntKind.i64.wrap (k : Int) = k := by rw [IntKind.wrap_i64]; omega
  have h48i : ¬ (281474976710656 < (k : Int) * (i0.bytes : Int)) := by rw [hz2]; omega
  have grown : ∀ (old : Nat), old < l.length + k → old ≤ maxLen → ∀ (row : Option Nat),
      OwnB (w.drew.alloc (.cells ((bcells l).toArray ++ (bcells (zeros k)).toArray ++ (bcells (zeros (grownCap w (l.length + k) old e - (l.length + k)))).toArray) e)) base e (.slice (some ⟨w.heap.size, 0, none⟩) (l.length + k) (grownCap w (l.length + k) old e)) (l ++ zeros k) ∧
      w.grownBy (w.drew.alloc (.cells ((bcells l).toArray ++ (bcells (zeros k)).toArray ++ (bcells (zeros (grownCap w (l.length + k) old e - (l.length + k)))).toArray) e)) row := by
    intro old ho hom row
    have hge := grownCap_ge w (l.length + k) old e
    have hcm : grownCap w (l.length + k) old e ≤ maxLen := grownCap_le_maxLen w (l.length + k) old e (by unfold maxLen; omega)
    have hL : (l ++ zeros k).length = l.length + k := by rw [List.length_append, zeros_length]
    refine ⟨?_, ⟨rfl, rfl, rfl, by simp, fun j hj _ => Below.heap_alloc w.drew _ j hj⟩⟩
    unfold OwnB
    rw [hL]
    refine ⟨by rw [bcells_length, hL, Nat.mul_one], .inr ⟨w.heap.size, _, _, rfl, hbase, heap_alloc_new w.drew _, hge, hcm, ?_, ?_⟩⟩
    · simp only [Array.size_append, List.size_toArray, bcells_length, zeros_length]
      omega
    · simp only [Array.toList_append, ← bcells_append]
      rw [bcells_append, Nat.mul_one]
      exact List.take_left' (by rw [bcells_length, hL])
  rcases hown.2 with ⟨rfl, hl⟩ | ⟨g, cap, cur, rfl, hbg, hg, hnc, hcm, hcs, htake⟩
  · have hx : l = [] := List.eq_nil_of_length_eq_zero hl
    subst hx
    by_cases hk : k = 0
    · subst hk
      refine ⟨.slice none 0 0, w, ?_, OwnB.nil_ w base e, World.grownBy.refl w _, .inl rfl⟩
      simp [Builtin.append_, run_underlying hT.ht, run_underlying htn, sizeOf, typeInfo, hi, asInt, asIntOf, IntKind.wrap_i64]
    · have hr := Lib.run_append_nil_zeros (P := P) w t tn ty e i0 (.int .u8 0) .i64 .i64 hT.ht htn hi hz0 k (by omega) (by omega) (by omega) (by rw [hz2]; simp at hlen; omega)
      have hgr := grown 0 (by simp; omega) (Nat.zero_le _) (Value.ownBlock (.slice none 0 0))
      rw [zeroCells_u8, zeroCells_u8] at hr
      simp only [List.length_nil, Nat.zero_add, List.nil_append, show (bcells []).toArray = #[] from rfl, Array.empty_append] at hgr ⊢
      exact ⟨_, _, hr, hgr.1, hgr.2, .inr rfl⟩
  · rw [Nat.mul_one] at hcs htake
    by_cases hroom : l.length + k ≤ cap
    · have hst := run_storeCells_at P g l.length e (bcells (zeros k)) 0 cur w hg (by rw [bcells_length, zeros_length]; omega) (bcells_one _)
      simp only [Nat.add_zero, bcells_length, zeros_length] at hst
      have hr : (Builtin.append_ #[t, tn] ty #[.slice (some ⟨g, 0, none⟩) l.length cap, .int .i64 k]).run P w = .ok (.slice (some ⟨g, 0, none⟩) (l.length + k) cap) (w.setRow g (cur.toList.take l.length ++ bcells (zeros k) ++ cur.toList.drop (l.length + k)).toArray) := by
        by_cases hk : k = 0
        · subst hk
          simp only [show bcells (zeros 0) = [] from rfl] at hst ⊢
          simp [Builtin.append_, run_underlying hT.ht, run_underlying htn, sizeOf, typeInfo, hi, asInt, asIntOf, IntKind.wrap_i64, hnc, storeCells]
          rw [setRow_self w g cur e (0, 0) hg]
        · simp [Builtin.append_, run_underlying hT.ht, run_underlying htn, sizeOf, typeInfo, zeroValue, hi, hz0, hz1, asInt, asIntOf, hw, hneg, h48i, hk, hroom, zeroCells_u8, Addr.add_lit, hst]
      refine ⟨_, _, hr, ?_, ⟨rfl, rfl, rfl, by simp, fun j _ hj => setRow_other w g j _ (fun e => hj (by simp [Value.ownBlock, e]))⟩, .inl rfl⟩
      unfold OwnB
      rw [List.length_append, zeros_length]
      refine ⟨by rw [bcells_length, List.length_append, zeros_length, Nat.mul_one], .inr ⟨g, cap, _, rfl, hbg, setRow_heap w g cur _ e _ hg, hroom, hcm, ?_, ?_⟩⟩
      · simp only [List.size_toArray, List.length_append, List.length_take, List.length_drop, Array.length_toList, bcells_length, zeros_length]
        omega
      · rw [htake, bcells_append, Nat.mul_one]
        exact List.take_left' (by simp [bcells_length, zeros_length])
    · have hold : (Builtin.firstCells i0.size l.length (.slice (some ⟨g, 0, none⟩) l.length cap)).run P w.drew = .ok (bcells l).toArray w.drew :=
        run_firstCells_some (P := P) w.drew i0.size l.length ⟨g, 0, none⟩ l.length cap (bcells l) (by rw [bcells_length, hz1, Nat.mul_one]) (World.ownsRow.cells (g := g) hown rfl)
      have hr := Lib.run_append_grow_zeros (P := P) w t tn ty e i0 (.int .u8 0) .i64 .i64 hT.ht htn hi hz0 (some ⟨g, 0, none⟩) l.length cap (bcells l) hold k (by omega) (by omega) (by omega) (by omega) (by rw [hz2]; omega) (by rw [hz2]; exact growslice_fits (by omega) (by omega))
      have hgr := grown cap (by omega) hcm (Value.ownBlock (.slice (some ⟨g, 0, none⟩) l.length cap))
      rw [zeroCells_u8, zeroCells_u8] at hr
      exact ⟨_, _, hr, hgr.1, hgr.2, .inr rfl⟩

theorem wpList_appZ {P : Program} {w : World} {ops : Array Oper} {rest : List Oper} {o : Oper} {a : Act} {Q : Exit → Act → World → Prop} {t tn e : TypeId} (hT : ByteT P t e) (htn : P.underlying tn = some (.int .i64)) (hgd : o.guard = none) (s x : Operand)
    (ho : o.op = .call { callee := .builtin .append, args := #[s, x], argTypes := #[t, tn] })
    {base : Nat} {v : Value} {l : List UInt8} (hown : OwnB w base e v l) (k : Nat)
    (hs : a.eval s = v) (hx : a.eval x = .int .i64 k) (hlen : l.length + k ≤ 70368744177664) (hbase : base ≤ w.heap.size)
    (h : ∀ v' w', OwnB w' base e v' (l ++ zeros k) → w.grownBy w' v.ownBlock → (v'.ownBlock = v.ownBlock ∨ v'.ownBlock = some w.heap.size) → wpList P ops Q rest (a.put o.dst v') w') : wpList P ops Q (o :: rest) a w := by
  obtain ⟨v', w', hr, h1, h2, h3⟩ := run_appZ hT htn o.type hown k hlen hbase
  exact Lib.wpList_append_run w hgd s x t tn ho _ _ hs hx v' w' hr (h v' w' h1 h2 h3)

theorem results_C1 {w : World} {cs : List Value} {fn : Func} {p : Tmp} {n g : Nat} {t ty : TypeId} (hr : fn.results = #[.cell p ty]) (tmps : Array Value) (hT : AggT Try.prog ty n) (h : CB w g t cs) (hl : cs.length = n) (hp : tmps.getD p undef = .pointer (some ⟨g, 0, none⟩)) :
    (results fn tmps).run Try.prog w = .ok (.agg cs.toArray) w := by
  have hp' : tmps[p]?.getD undef = .pointer (some ⟨g, 0, none⟩) := by simpa using hp
  have hld := run_loadC (P := Try.prog) (p := cs) (off := 0) hT h (by rw [List.drop_zero]; exact List.take_of_length_le (by omega)) (by omega)
  simp [results, hr, hp', asAddr, hld]
/-- All of it cut away: the row stays. -/
theorem OwnB.cut0 {w : World} {base : Nat} {e : TypeId} {A : Option Addr} {cap : Nat} {l : List UInt8} {n : Nat} (h : OwnB w base e (.slice A n cap) l) : OwnB w base e (.slice A 0 cap) [] := by
  rcases h.2 with ⟨hv, _⟩ | ⟨g, cap', cur, hv, hb, hg, hc, hm, hz, ht⟩
  · injection hv with h1 h2 h3
    subst h1 h3
    exact OwnB.nil_ w base e
  · injection hv with h1 h2 h3
    subst h1 h3
    exact ⟨rfl, .inr ⟨g, cap, cur, rfl, hb, hg, Nat.zero_le _, hm, hz, by simp [bcells]⟩⟩

section
variable {w : World}
theorem grow_any (n : Nat) (hn : n ≤ 1000000) :
    Calls Try.prog 41 #[.slice none 0 0, .int .i64 (n : Int)] w fun e w' => ∃ v, e = .returned v ∧ OwnB w' w.heap.size 5 v [] ∧ w.grownBy w' none := by
  have h0 : ¬ (n : Int) < 0 := by omega
  have hw : IntKind.i64.wrap (n : Int) = (n : Int) := by simp [IntKind.wrap, IntKind.bits, IntKind.signed]; omega
  by_cases hp : 0 < n
  · have hpi : (0 : Int) < (n : Int) := by omega
    go_enter Try.func41, Try.ntmps41
    go_wp2_with (first
      | (at_builtin
         refine wpList_appZ byteT Try.underlying3 rfl (.tmp 20) (.tmp 21) rfl (OwnB.nil_ _ w.heap.size _) n (by first | rfl | go_simp) (by first | rfl | go_simp) (by simp; omega) (Nat.le_refl _) ?_
         intro v2 w2 o2 g2 a2
         rw [List.nil_append] at o2
         obtain ⟨A2, c2, hv2, r2, -⟩ := o2.shape
         rw [zeros_length] at hv2
         subst hv2
         have O2 := Lib.hid o2
         have G2 := Lib.hid (show w.grownBy w2 none from g2)
         clear o2 g2 a2 r2))
    go_ret
    exact ⟨_, rfl, O2.out.cut0, G2.out⟩
  · have hpi : ¬ (0 : Int) < (n : Int) := by omega
    go_enter Try.func41, Try.ntmps41
    go_wp2
    go_ret
    exact ⟨_, rfl, OwnB.nil_ _ _ _, World.grownBy.refl _ _⟩
theorem flat_take2 (ls : List (List UInt8)) (k : Nat) (l : List UInt8) (h : ls[k]? = some l) : (ls.take (k + 1)).flatten = (ls.take k).flatten ++ l := by
  have hk := (List.getElem?_eq_some_iff.1 h)
  obtain ⟨hk, e⟩ := hk
  rw [List.take_succ_eq_append_getElem hk, List.flatten_append, e]
  simp
theorem flat_le (ls : List (List UInt8)) (k : Nat) : (ls.take k).flatten.length ≤ ls.flatten.length := by
  conv => rhs; rw [← List.take_append_drop k ls, List.flatten_append, List.length_append]
  omega
set_option maxHeartbeats 4000000 in
theorem concat_any (A : Option Addr) (ls : List (List UInt8)) (n cap B : Nat) (hn : ls.length = n) (hr : RT w B A ls cap) (hB : B ≤ w.heap.size) (hs : ls.flatten.length ≤ 1000000) (hnl : n ≤ 1000) :
    Calls Try.prog 39 #[.slice A n cap] w fun e w' => ∃ v, e = .returned v ∧ OwnB w' w.heap.size 5 v ls.flatten ∧ w.grownBy w' none := by
  have HR := Lib.hid hr
  have HN := Lib.hid hn
  have HS := Lib.hid hs
  have HB := Lib.hid hB
  have hni : (n : Int) ≤ 1000 := by omega
  clear hr hn hs hB
  go_enter Try.func39, Try.ntmps39
  go_wp2
  go_loopw [3, 11] (fun s3 s11 wr => ∃ k : Nat, s11 = .int .i64 k ∧ k ≤ n ∧ s3 = .int .i64 ((ls.take k).flatten.length : Int) ∧ wr = w) (fun _ s11 _ => n - (intOf s11).toNat)
  case atStart => exact ⟨0, rfl, Nat.zero_le _, rfl, rfl⟩
  case round =>
    obtain ⟨k, rfl, hk, rfl, hww⟩ := hrel
    rw [hww]
    clear hww
    by_cases hkn : k < n
    · have hki : (k : Int) < (n : Int) := by omega
      obtain ⟨b, off, rfl, hb, hc⟩ := HR.out.open_ (by rw [HN.out]; omega)
      obtain ⟨l, hl⟩ : ∃ l, ls[k]? = some l := ⟨_, List.getElem?_eq_getElem (by rw [HN.out]; exact hkn)⟩
      obtain ⟨V, c, c1, -⟩ := hc k l hl
      obtain ⟨ln, hln⟩ : ∃ x, l.length = x := ⟨_, rfl⟩
      rw [hln] at c1
      obtain ⟨sn, hsn⟩ : ∃ x, (ls.take k).flatten.length = x := ⟨_, rfl⟩
      have HT := Lib.hid (show (ls.take (k + 1)).flatten.length = sn + ln by rw [flat_take2 ls k l hl, List.length_append, hsn, hln])
      have hsl : sn + ln ≤ 1000000 := by rw [← HT.out]; exact Nat.le_trans (flat_le ls (k + 1)) HS.out
      have hw : IntKind.i64.wrap ((sn : Int) + (ln : Int)) = (sn : Int) + (ln : Int) := by simp [IntKind.wrap, IntKind.bits, IntKind.signed]; omega
      have hng : ¬ (sn : Int) + (ln : Int) < 0 := by omega
      rw [hsn]
      clear hc hl hln hsn
      go_wp2
      go_roundw
      case rel => exact ⟨k + 1, by go_num, by omega, by rw [HT.out]; rfl, by first | rfl | trivial⟩
      case measure => simp [intOf]; omega
    · obtain rfl : k = n := by omega
      have hki : ¬ (k : Int) < (k : Int) := by omega
      have hlt : ls.take k = ls := List.take_of_length_le (by rw [HN.out]; exact Nat.le_refl _)
      rw [hlt]
      obtain ⟨sn, hsn⟩ : ∃ x, ls.flatten.length = x := ⟨_, rfl⟩
      have HSN := Lib.hid hsn
      rw [hsn]
      clear hsn hlt
      go_wp2_with (first
        | (go_at_call 41
           refine (grow_any sn (by rw [← HSN.out]; exact HS.out)).mono ?_
           rintro e w2 ⟨v2, rfl, o2, g2⟩
           have O2 := Lib.hid o2
           have G2 := Lib.hid g2
           clear o2 g2))
      go_loopw [6, 27] (fun s6 s27 wq => ∃ j : Nat, s27 = .int .i64 j ∧ j ≤ k ∧ OwnB wq w.heap.size 5 s6 (ls.take j).flatten ∧ w.grownBy wq none) (fun _ s27 _ => k - (intOf s27).toNat)
      case atStart => exact ⟨0, rfl, Nat.zero_le _, O2.out, G2.out⟩
      case round =>
        obtain ⟨j, rfl, hj, ho, hg⟩ := hrel
        have OO := Lib.hid ho
        have GG := Lib.hid hg
        by_cases hjn : j < k
        · have hji : (j : Int) < (k : Int) := by omega
          obtain ⟨b, off, rfl, hb, hc⟩ := HR.out.open_ (by rw [HN.out]; omega)
          obtain ⟨l, hl⟩ : ∃ l, ls[j]? = some l := ⟨_, List.getElem?_eq_getElem (by rw [HN.out]; exact hjn)⟩
          obtain ⟨V, c, c1, hV⟩ := hc j l hl
          obtain ⟨ln, hln⟩ : ∃ x, l.length = x := ⟨_, rfl⟩
          rw [hln] at c1
          have HLN := Lib.hid hln
          have HT := Lib.hid (flat_take2 ls j l hl)
          have HSL := Lib.hid (show (ls.take j).flatten.length + l.length ≤ 1000000 by rw [← List.length_append, ← HT.out]; exact Nat.le_trans (flat_le ls (j + 1)) HS.out)
          have HVV := Lib.hid ((hV.more HB.out).below (below_of_none hg))
          have q1 := ((below_of_none hg).cell (p := ⟨b, off + j, none⟩) (Nat.lt_of_lt_of_le hb HB.out)).trans c1
          clear hc hl hln c1 hV ho hg hb
          go_wp2_with (first
            | (at_builtin
               refine wpList_appB byteT rfl (.tmp 31) (.tmp 32) rfl OO.out HVV.out (by first | rfl | go_simp) (by rw [HLN.out]; first | rfl | go_simp) (by have := HSL.out; omega) GG.out.size ?_
               intro v3 w3 o3 g3 _ a3
               have O3 := Lib.hid o3
               have G3 := Lib.hid (grown_row GG.out g3 (fun z hz => (OO.out.lt z hz).1))
               clear o3 g3 a3))
          go_roundw
          case rel => exact ⟨j + 1, by go_num, by omega, by rw [HT.out]; exact O3.out, G3.out⟩
          case measure => simp [intOf]; omega
        · obtain rfl : j = k := by omega
          have hji : ¬ (j : Int) < (j : Int) := by omega
          have hlt : ls.take j = ls := List.take_of_length_le (by rw [HN.out]; exact Nat.le_refl _)
          rw [hlt] at OO
          clear ho hg hlt
          go_wp2
          go_ret
          exact ⟨_, rfl, OO.out, GG.out⟩
/-- A part of the option of authentication. -/
def AbR (w w' : World) (d : List UInt8) (e : Ending) : Prop := ∃ v, e = .returned (.agg #[.int .i64 3, .int .i64 0, .int .i64 37, v]) ∧ OwnB w' w.heap.size 5 v d ∧ w.grownBy w' none
theorem RT.two (w : World) (ty : TypeId) (B : Nat) (A1 A2 : Option Addr) (l1 l2 : List UInt8) (n1 n2 c1 c2 : Nat) (h1 : RB w w.heap.size A1 l1 c1) (h2 : RB w w.heap.size A2 l2 c2) (e1 : l1.length = n1) (e2 : l2.length = n2) (hB : w.heap.size < B) :
    RT (w.alloc (.cells #[.slice A1 n1 c1, .slice A2 n2 c2] ty)) B (some ⟨w.heap.size, 0, none⟩) [l1, l2] 2 := by
  subst e1 e2
  refine ⟨Nat.le_refl _, by simp [maxLen], .inr ⟨_, rfl, fun k l hl => ?_⟩⟩
  have h := CB.new w ty [.slice A1 l1.length c1, .slice A2 l2.length c2]
  match k, hl with
  | 0, hl => simp at hl; subst hl; exact ⟨hB, A1, c1, h.at_ rfl, (h1.alloc (Nat.le_refl _) _).more (Nat.le_of_lt hB)⟩
  | 1, hl => simp at hl; subst hl; exact ⟨hB, A2, c2, h.at_ rfl, (h2.alloc (Nat.le_refl _) _).more (Nat.le_of_lt hB)⟩
  | k + 2, hl => simp at hl
set_option maxHeartbeats 2000000 in
theorem about_any (A1 A2 : Option Addr) (bd hd : List UInt8) (n1 n2 c1 c2 : Nat) (h1 : RB w w.heap.size A1 bd c1) (h2 : RB w w.heap.size A2 hd c2) (e1 : bd.length = n1) (e2 : hd.length = n2) (hl : bd.length + hd.length ≤ 1000000) :
    Calls Try.prog 30 #[.slice A1 n1 c1, .slice A2 n2 c2] w fun e w' => AbR w w' (hd ++ bd) e := by
  have H1 := Lib.hid h1
  have H2 := Lib.hid h2
  have E1 := Lib.hid e1
  have E2 := Lib.hid e2
  have HL := Lib.hid hl
  clear h1 h2 e1 e2 hl
  go_enter Try.func30, Try.ntmps30
  go_wp2_with (first
    | (go_at_call 39
       obtain ⟨wa, hwa⟩ : ∃ wa, wa = w.alloc (.cells #[.int .i64 0, .int .i64 0, .int .i64 0, .slice none 0 0] 24) := ⟨_, rfl⟩
       have GA := Lib.hid (show w.grownBy wa none by rw [hwa]; exact grown_alloc _ _ _)
       have CA := Lib.hid (show CB wa w.heap.size 24 [.int .i64 0, .int .i64 0, .int .i64 0, .slice none 0 0] by rw [hwa]; exact CB.new _ _ _)
       have HSZ := Lib.hid (show wa.heap.size = w.heap.size + 1 by rw [hwa, World.size_alloc])
       rw [← hwa]
       try rw [← HSZ.out]
       clear hwa
       refine (concat_any _ [hd, bd] 2 2 _ rfl (RT.two wa _ (wa.heap.size + 1) A2 A1 hd bd n2 n1 c2 c1 ((H2.out.below (below_of_none GA.out)).more GA.out.size) ((H1.out.below (below_of_none GA.out)).more GA.out.size) E2.out E1.out (Nat.lt_succ_self _)) (by rw [World.size_alloc]; exact Nat.le_refl _) (by simp; have := HL.out; omega) (by omega)).mono ?_
       rintro e w2 ⟨v2, rfl, o2, g2⟩
       have g3 := grown_trans' (grown_alloc wa (.cells #[.slice A2 n2 c2, .slice A1 n1 c1] 22) none) g2
       obtain ⟨Av, cv, hv2, -, -⟩ := o2.shape
       obtain ⟨m, hm⟩ : ∃ x, ([hd, bd] : List (List UInt8)).flatten.length = x := ⟨_, rfl⟩
       rw [hm] at hv2
       subst hv2
       have O2 := Lib.hid (show OwnB w2 w.heap.size 5 (.slice Av m cv) (hd ++ bd) by have := o2.base_ (base' := w.heap.size) (by rw [World.size_alloc]; have := HSZ.out; omega); simpa using this)
       have G2 := Lib.hid (grown_trans' GA.out g3)
       have C2 := Lib.hid (CA.out.kept g3)
       clear o2 g2 g3 hm)
    | (refine wpList_storeC (off := 0) (p := [.int .i64 3, .int .i64 0, .int .i64 37, (.slice Av m cv)]) szT rfl (.tmp 4) (.tmp 9) rfl (.agg #[.int .i64 3, .int .i64 0, .int .i64 37, (.slice Av m cv)]) rfl (fun u hu => by simp at hu; rcases hu with rfl | rfl | rfl | rfl <;> first | rfl | exact one_own O2.out) C2.out rfl (by simp) (by first | rfl | go_simp) (by first | rfl | go_simp) ?_
       intro w3 h3 g3
       have C3 := Lib.hid (show CB w3 w.heap.size 24 [.int .i64 3, .int .i64 0, .int .i64 37, (.slice Av m cv)] from h3)
       have O3 := Lib.hid (O2.out.mod (Mod.of_grown g3) (fun z hz e => by injection e with e; subst e; exact O2.out.ne_cells C2.out (by decide) hz))
       have G3 := Lib.hid (grown_row G2.out g3 (fun z hz => by injection hz with hz; omega))
       clear h3 g3))
  refine bodyPost_ret (results_C1 rfl _ aggT4 C3.out rfl (by first | rfl | go_simp)) rfl ?_
  exact ⟨_, rfl, O3.out, G3.out⟩
end
end Go.Proofs.Ytcfhpoigfkljpaa
