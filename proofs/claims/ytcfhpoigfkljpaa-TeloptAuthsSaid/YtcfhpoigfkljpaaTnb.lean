/- The walks of Send, Is, Reply; of the library's Equal, HasPrefix, CutPrefix, Clone. -/
import Derived.Lib.SliceRun
import Derived.Test.YtcfhpoigfkljpaaTna
namespace Go.Proofs.Ytcfhpoigfkljpaa
open Go.ChangeShapes Go.WideShapes Go.RowKit
set_option linter.unusedVariables false

section
variable {w : World}
set_option maxHeartbeats 2000000 in
theorem send_any  :
    Calls Try.prog 19 #[] w fun e w' => AbR w w' ([1, 2, 2] ++ []) e := by
  go_enter Try.func19, Try.ntmps19
  go_wp2_with (first
    | (go_at_call 30
       obtain ⟨wa, hwa⟩ : ∃ wa, wa = w.alloc (.cells #[.int .i64 0, .int .i64 0, .int .i64 0, .slice none 0 0] 24) := ⟨_, rfl⟩
       have GA := Lib.hid (show w.grownBy wa none by rw [hwa]; exact grown_alloc _ _ _)
       have CA := Lib.hid (show CB wa w.heap.size 24 [.int .i64 0, .int .i64 0, .int .i64 0, .slice none 0 0] by rw [hwa]; exact CB.new _ _ _)
       have HSZ := Lib.hid (show wa.heap.size = w.heap.size + 1 by rw [hwa, World.size_alloc])
       rw [← hwa]
       try rw [← HSZ.out]
       clear hwa
       refine (about_any none _ [] [1, 2, 2] 0 3 0 3 (RB.nil_ _ _) (by rw [show wa.alloc (.cells #[.int .u8 1, .int .u8 2, .int .u8 2] 5) = wa.alloc (.cells (bcells [1, 2, 2]).toArray 5) from rfl]; exact RB.new wa _ [1, 2, 2] (by simp [maxLen]) _ (by rw [World.size_alloc]; omega)) rfl rfl (by simp)).mono ?_
       rintro e w2 ⟨v2, rfl, o2, g2⟩
       have O2 := Lib.hid (show OwnB w2 w.heap.size 5 v2 ([1, 2, 2] ++ []) from o2.base_ (by rw [World.size_alloc]; have := HSZ.out; omega))
       have g3 := grown_trans' (grown_alloc wa (.cells #[(.int .u8 1), (.int .u8 2), (.int .u8 2)] 5) none) g2
       have G2 := Lib.hid (grown_trans' GA.out g3)
       have C2 := Lib.hid (CA.out.kept g3)
       clear o2 g2 g3)
    | (refine wpList_storeC (off := 0) (p := [.int .i64 3, .int .i64 0, .int .i64 37, v2]) szT rfl (.tmp 0) (.tmp 2) rfl (.agg #[.int .i64 3, .int .i64 0, .int .i64 37, v2]) rfl (fun u hu => by simp at hu; rcases hu with rfl | rfl | rfl | rfl <;> first | rfl | exact one_own O2.out) C2.out rfl (by simp) (by first | rfl | go_simp) (by first | rfl | go_simp) ?_
       intro w3 h3 g3
       have C3 := Lib.hid (show CB w3 w.heap.size 24 [.int .i64 3, .int .i64 0, .int .i64 37, v2] from h3)
       have O3 := Lib.hid (O2.out.mod (Mod.of_grown g3) (fun z hz e => by injection e with e; subst e; exact O2.out.ne_cells C2.out (by decide) hz))
       have G3 := Lib.hid (grown_row G2.out g3 (fun z hz => by injection hz with hz; omega))
       clear h3 g3))
  refine bodyPost_ret (results_C1 rfl _ aggT4 C3.out rfl (by first | rfl | go_simp)) rfl ?_
  exact ⟨_, rfl, O3.out, G3.out⟩
set_option maxHeartbeats 2000000 in
theorem is_any (A : Option Addr) (bd : List UInt8) (n cap : Nat) (hn : bd.length = n) (hr : RB w w.heap.size A bd cap) (hl : n ≤ 100000) :
    Calls Try.prog 20 #[.slice A n cap] w fun e w' => AbR w w' ([0, 2, 2, 0] ++ bd) e := by
  have HR := Lib.hid hr
  have HN := Lib.hid hn
  have HL := Lib.hid hl
  clear hr hn hl
  go_enter Try.func20, Try.ntmps20
  go_wp2_with (first
    | (go_at_call 30
       obtain ⟨wa, hwa⟩ : ∃ wa, wa = w.alloc (.cells #[.int .i64 0, .int .i64 0, .int .i64 0, .slice none 0 0] 24) := ⟨_, rfl⟩
       have GA := Lib.hid (show w.grownBy wa none by rw [hwa]; exact grown_alloc _ _ _)
       have CA := Lib.hid (show CB wa w.heap.size 24 [.int .i64 0, .int .i64 0, .int .i64 0, .slice none 0 0] by rw [hwa]; exact CB.new _ _ _)
       have HSZ := Lib.hid (show wa.heap.size = w.heap.size + 1 by rw [hwa, World.size_alloc])
       rw [← hwa]
       try rw [← HSZ.out]
       clear hwa
       refine (about_any A _ bd [0, 2, 2, 0] n 4 cap 4 (((HR.out.below (below_of_none GA.out)).alloc GA.out.size _).more (by rw [World.size_alloc]; have := GA.out.size; omega)) (by rw [show wa.alloc (.cells #[.int .u8 0, .int .u8 2, .int .u8 2, .int .u8 0] 5) = wa.alloc (.cells (bcells [0, 2, 2, 0]).toArray 5) from rfl]; exact RB.new wa _ [0, 2, 2, 0] (by simp [maxLen]) _ (by rw [World.size_alloc]; omega)) HN.out rfl (by rw [HN.out]; have := HL.out; simp; omega)).mono ?_
       rintro e w2 ⟨v2, rfl, o2, g2⟩
       have O2 := Lib.hid (show OwnB w2 w.heap.size 5 v2 ([0, 2, 2, 0] ++ bd) from o2.base_ (by rw [World.size_alloc]; have := HSZ.out; omega))
       have g3 := grown_trans' (grown_alloc wa (.cells #[.int .u8 0, .int .u8 2, .int .u8 2, .int .u8 0] 5) none) g2
       have G2 := Lib.hid (grown_trans' GA.out g3)
       have C2 := Lib.hid (CA.out.kept g3)
       clear o2 g2 g3)
    | (refine wpList_storeC (off := 0) (p := [.int .i64 3, .int .i64 0, .int .i64 37, v2]) szT rfl (.tmp 2) (.tmp 5) rfl (.agg #[.int .i64 3, .int .i64 0, .int .i64 37, v2]) rfl (fun u hu => by simp at hu; rcases hu with rfl | rfl | rfl | rfl <;> first | rfl | exact one_own O2.out) C2.out rfl (by simp) (by first | rfl | go_simp) (by first | rfl | go_simp) ?_
       intro w3 h3 g3
       have C3 := Lib.hid (show CB w3 w.heap.size 24 [.int .i64 3, .int .i64 0, .int .i64 37, v2] from h3)
       have O3 := Lib.hid (O2.out.mod (Mod.of_grown g3) (fun z hz e => by injection e with e; subst e; exact O2.out.ne_cells C2.out (by decide) hz))
       have G3 := Lib.hid (grown_row G2.out g3 (fun z hz => by injection hz with hz; omega))
       clear h3 g3))
  refine bodyPost_ret (results_C1 rfl _ aggT4 C3.out rfl (by first | rfl | go_simp)) rfl ?_
  exact ⟨_, rfl, O3.out, G3.out⟩
set_option maxHeartbeats 2000000 in
theorem reply_yes (A : Option Addr) (bd : List UInt8) (n cap : Nat) (hn : bd.length = n) (hr : RB w w.heap.size A bd cap) (hl : n ≤ 100000) :
    Calls Try.prog 21 #[.bool true, .slice A n cap] w fun e w' => AbR w w' ([2, 2, 2, 2] ++ bd) e := by
  have HR := Lib.hid hr
  have HN := Lib.hid hn
  have HL := Lib.hid hl
  clear hr hn hl
  go_enter Try.func21, Try.ntmps21
  go_wp2_with (first
    | (go_at_call 30
       obtain ⟨wa, hwa⟩ : ∃ wa, wa = w.alloc (.cells #[.int .i64 0, .int .i64 0, .int .i64 0, .slice none 0 0] 24) := ⟨_, rfl⟩
       have GA := Lib.hid (show w.grownBy wa none by rw [hwa]; exact grown_alloc _ _ _)
       have CA := Lib.hid (show CB wa w.heap.size 24 [.int .i64 0, .int .i64 0, .int .i64 0, .slice none 0 0] by rw [hwa]; exact CB.new _ _ _)
       have HSZ := Lib.hid (show wa.heap.size = w.heap.size + 1 by rw [hwa, World.size_alloc])
       rw [← hwa]
       try rw [← HSZ.out]
       clear hwa
       refine (about_any A _ bd [2, 2, 2, 2] n 4 cap 4 (((HR.out.below (below_of_none GA.out)).alloc GA.out.size _).more (by rw [World.size_alloc]; have := GA.out.size; omega)) (by rw [show wa.alloc (.cells #[.int .u8 2, .int .u8 2, .int .u8 2, .int .u8 2] 5) = wa.alloc (.cells (bcells [2, 2, 2, 2]).toArray 5) from rfl]; exact RB.new wa _ [2, 2, 2, 2] (by simp [maxLen]) _ (by rw [World.size_alloc]; omega)) HN.out rfl (by rw [HN.out]; have := HL.out; simp; omega)).mono ?_
       rintro e w2 ⟨v2, rfl, o2, g2⟩
       have O2 := Lib.hid (show OwnB w2 w.heap.size 5 v2 ([2, 2, 2, 2] ++ bd) from o2.base_ (by rw [World.size_alloc]; have := HSZ.out; omega))
       have g3 := grown_trans' (grown_alloc wa (.cells #[.int .u8 2, .int .u8 2, .int .u8 2, .int .u8 2] 5) none) g2
       have G2 := Lib.hid (grown_trans' GA.out g3)
       have C2 := Lib.hid (CA.out.kept g3)
       clear o2 g2 g3)
    | (refine wpList_storeC (off := 0) (p := [.int .i64 3, .int .i64 0, .int .i64 37, v2]) szT rfl (.tmp 4) (.tmp 10) rfl (.agg #[.int .i64 3, .int .i64 0, .int .i64 37, v2]) rfl (fun u hu => by simp at hu; rcases hu with rfl | rfl | rfl | rfl <;> first | rfl | exact one_own O2.out) C2.out rfl (by simp) (by first | rfl | go_simp) (by first | rfl | go_simp) ?_
       intro w3 h3 g3
       have C3 := Lib.hid (show CB w3 w.heap.size 24 [.int .i64 3, .int .i64 0, .int .i64 37, v2] from h3)
       have O3 := Lib.hid (O2.out.mod (Mod.of_grown g3) (fun z hz e => by injection e with e; subst e; exact O2.out.ne_cells C2.out (by decide) hz))
       have G3 := Lib.hid (grown_row G2.out g3 (fun z hz => by injection hz with hz; omega))
       clear h3 g3))
  refine bodyPost_ret (results_C1 rfl _ aggT4 C3.out rfl (by first | rfl | go_simp)) rfl ?_
  exact ⟨_, rfl, O3.out, G3.out⟩
set_option maxHeartbeats 2000000 in
theorem reply_no (A : Option Addr) (bd : List UInt8) (n cap : Nat) (hn : bd.length = n) (hr : RB w w.heap.size A bd cap) (hl : n ≤ 100000) :
    Calls Try.prog 21 #[.bool false, .slice A n cap] w fun e w' => AbR w w' ([2, 2, 2, 1] ++ bd) e := by
  have HR := Lib.hid hr
  have HN := Lib.hid hn
  have HL := Lib.hid hl
  clear hr hn hl
  go_enter Try.func21, Try.ntmps21
  go_wp2_with (first
    | (go_at_call 30
       obtain ⟨wa, hwa⟩ : ∃ wa, wa = w.alloc (.cells #[.int .i64 0, .int .i64 0, .int .i64 0, .slice none 0 0] 24) := ⟨_, rfl⟩
       have GA := Lib.hid (show w.grownBy wa none by rw [hwa]; exact grown_alloc _ _ _)
       have CA := Lib.hid (show CB wa w.heap.size 24 [.int .i64 0, .int .i64 0, .int .i64 0, .slice none 0 0] by rw [hwa]; exact CB.new _ _ _)
       have HSZ := Lib.hid (show wa.heap.size = w.heap.size + 1 by rw [hwa, World.size_alloc])
       rw [← hwa]
       try rw [← HSZ.out]
       clear hwa
       refine (about_any A _ bd [2, 2, 2, 1] n 4 cap 4 (((HR.out.below (below_of_none GA.out)).alloc GA.out.size _).more (by rw [World.size_alloc]; have := GA.out.size; omega)) (by rw [show wa.alloc (.cells #[.int .u8 2, .int .u8 2, .int .u8 2, .int .u8 1] 5) = wa.alloc (.cells (bcells [2, 2, 2, 1]).toArray 5) from rfl]; exact RB.new wa _ [2, 2, 2, 1] (by simp [maxLen]) _ (by rw [World.size_alloc]; omega)) HN.out rfl (by rw [HN.out]; have := HL.out; simp; omega)).mono ?_
       rintro e w2 ⟨v2, rfl, o2, g2⟩
       have O2 := Lib.hid (show OwnB w2 w.heap.size 5 v2 ([2, 2, 2, 1] ++ bd) from o2.base_ (by rw [World.size_alloc]; have := HSZ.out; omega))
       have g3 := grown_trans' (grown_alloc wa (.cells #[.int .u8 2, .int .u8 2, .int .u8 2, .int .u8 1] 5) none) g2
       have G2 := Lib.hid (grown_trans' GA.out g3)
       have C2 := Lib.hid (CA.out.kept g3)
       clear o2 g2 g3)
    | (refine wpList_storeC (off := 0) (p := [.int .i64 3, .int .i64 0, .int .i64 37, v2]) szT rfl (.tmp 4) (.tmp 10) rfl (.agg #[.int .i64 3, .int .i64 0, .int .i64 37, v2]) rfl (fun u hu => by simp at hu; rcases hu with rfl | rfl | rfl | rfl <;> first | rfl | exact one_own O2.out) C2.out rfl (by simp) (by first | rfl | go_simp) (by first | rfl | go_simp) ?_
       intro w3 h3 g3
       have C3 := Lib.hid (show CB w3 w.heap.size 24 [.int .i64 3, .int .i64 0, .int .i64 37, v2] from h3)
       have O3 := Lib.hid (O2.out.mod (Mod.of_grown g3) (fun z hz e => by injection e with e; subst e; exact O2.out.ne_cells C2.out (by decide) hz))
       have G3 := Lib.hid (grown_row G2.out g3 (fun z hz => by injection hz with hz; omega))
       clear h3 g3))
  refine bodyPost_ret (results_C1 rfl _ aggT4 C3.out rfl (by first | rfl | go_simp)) rfl ?_
  exact ⟨_, rfl, O3.out, G3.out⟩

theorem convL {w : World} {B : Nat} {A : Option Addr} {l : List UInt8} {n c : Nat} (h : RB w B A l c) (hn : l.length = n) : (convert 22 9 (.slice A n c)).run Try.prog w = .ok (.string ⟨l.toArray⟩) w := by
  subst hn
  exact run_strB byteT strTy h
theorem equal_any (A B : Option Addr) (a b : List UInt8) (n m c d : Nat) (ha : a.length = n) (hb : b.length = m) (h1 : RB w w.heap.size A a c) (h2 : RB w w.heap.size B b d) :
    Calls Try.prog 27 #[.slice A n c, .slice B m d] w fun e w' => e = .returned (.bool (a == b)) ∧ w' = w := by
  have q1 := convL h1 ha
  have q2 := convL h2 hb
  clear h1 h2 ha hb
  go_enter Try.func27, Try.ntmps27
  go_wp2
  go_ret
  refine ⟨?_, rfl⟩
  first | rfl | simp
theorem pre_take (a b : List UInt8) (h : b.length ≤ a.length) : (a.take b.length == b) = b.isPrefixOf a := by
  rw [Bool.eq_iff_iff, beq_iff_eq, List.isPrefixOf_iff_prefix, List.prefix_iff_eq_take]
  exact ⟨fun e => e.symm, fun e => e.symm⟩
theorem pre_long (a b : List UInt8) (h : a.length < b.length) : b.isPrefixOf a = false := by
  rw [Bool.eq_false_iff]
  intro e
  have := (List.isPrefixOf_iff_prefix.1 e).length_le
  omega
theorem hasPrefix_any (A B : Option Addr) (a b : List UInt8) (n m c d : Nat) (ha : a.length = n) (hb : b.length = m) (h1 : RB w w.heap.size A a c) (h2 : RB w w.heap.size B b d) :
    Calls Try.prog 38 #[.slice A n c, .slice B m d] w fun e w' => e = .returned (.bool (b.isPrefixOf a)) ∧ w' = w := by
  by_cases h : m ≤ n
  · have hi : (m : Int) ≤ (n : Int) := by omega
    have hc : n ≤ c := by rw [← ha]; exact h1.1
    have hmc : m ≤ c := by omega
    have hmi : (m : Int) ≤ (c : Int) := by omega
    have HQ := Lib.hid (equal_any A B (a.take m) b m m c d (by rw [List.length_take]; omega) hb (h1.head m) h2)
    have HP := Lib.hid (show (a.take m == b) = b.isPrefixOf a by rw [← hb]; exact pre_take a b (by omega))
    clear h1 h2 ha hb
    go_enter Try.func38, Try.ntmps38
    go_wp2_with (first
      | (go_at_call 27; refine HQ.out.mono ?_; rw [HP.out]; rintro e wv ⟨rfl, rfl⟩))
    go_ret
    exact ⟨rfl, rfl⟩
  · have hi : ¬ (m : Int) ≤ (n : Int) := by omega
    rw [pre_long a b (by omega)]
    clear h1 h2 ha hb
    go_enter Try.func38, Try.ntmps38
    go_wp2
    go_ret
    exact ⟨rfl, rfl⟩
theorem cutPrefix_no (A B : Option Addr) (a b : List UInt8) (n m c d : Nat) (ha : a.length = n) (hb : b.length = m) (h1 : RB w w.heap.size A a c) (h2 : RB w w.heap.size B b d) (hp : b.isPrefixOf a = false) :
    Calls Try.prog 28 #[.slice A n c, .slice B m d] w fun e w' => e = .returned (.tuple #[.slice A n c, .bool false]) ∧ w' = w := by
  have HQ := Lib.hid (hasPrefix_any A B a b n m c d ha hb h1 h2)
  rw [hp] at HQ
  clear h1 h2 ha hb hp
  go_enter Try.func28, Try.ntmps28
  go_wp2_with (first
    | (go_at_call 38; refine HQ.out.mono ?_; rintro e wv ⟨rfl, rfl⟩))
  go_ret2
  exact ⟨rfl, rfl⟩
/-- What is left behind the head that was cut. -/
def CpR (w w' : World) (a : List UInt8) (n m : Nat) (e : Ending) : Prop := ∃ A' c', e = .returned (.tuple #[.slice A' (n - m) c', .bool true]) ∧ RB w w.heap.size A' (a.drop m) c' ∧ w' = w
theorem cutPrefix_yes (A B : Option Addr) (a b : List UInt8) (n m c d : Nat) (ha : a.length = n) (hb : b.length = m) (h1 : RB w w.heap.size A a c) (h2 : RB w w.heap.size B b d) (hp : b.isPrefixOf a = true) (hm0 : 0 < m) :
    Calls Try.prog 28 #[.slice A n c, .slice B m d] w fun e w' => CpR w w' a n m e := by
  have HQ := Lib.hid (hasPrefix_any A B a b n m c d ha hb h1 h2)
  rw [hp] at HQ
  have hle : m ≤ n := by have := (List.isPrefixOf_iff_prefix.1 hp).length_le; omega
  have hc : n ≤ c := by rw [← ha]; exact h1.1
  have hcm : c ≤ 9223372036854775807 := h1.2.1
  have hcut := h1.cut (k := m) (by omega)
  obtain ⟨b0, off, rfl, -, -⟩ := h1.open_ (by omega)
  have hmi : (m : Int) ≤ (n : Int) := by omega
  have hmc : (m : Int) ≤ (c : Int) := by omega
  have hnc : (n : Int) ≤ (c : Int) := by omega
  obtain ⟨qa, hqa⟩ : ∃ qa, (if c = m then some (⟨b0, off, none⟩ : Addr) else some ⟨b0, off + m, none⟩) = some qa := by split <;> exact ⟨_, rfl⟩
  have DC := Lib.hid (show RB w w.heap.size (some qa) (a.drop m) (c - m) by
    rw [show (if c = m then some (⟨b0, off, none⟩ : Addr) else (some (⟨b0, off, none⟩ : Addr)).map (·.add m)) = some qa by rw [← hqa, Option.map_some, Addr.add_lit]] at hcut
    exact hcut)
  clear h1 h2 ha hb hp hcut
  go_enter Try.func28, Try.ntmps28
  go_wp2_with (first
    | (go_at_call 38; refine HQ.out.mono ?_; rintro e wv ⟨rfl, rfl⟩))
  go_ret2
  exact ⟨_, _, rfl, DC.out, rfl⟩
/-- What Clone comes to. -/
def ClR (w w' : World) (a : List UInt8) (e : Ending) : Prop := ∃ v, e = .returned v ∧ OwnB w' w.heap.size 5 v a ∧ w.grownBy w' none
theorem clone_any (A : Option Addr) (a : List UInt8) (n c : Nat) (ha : a.length = n) (h1 : RB w w.heap.size A a c) (hl : n ≤ 1000000) :
    Calls Try.prog 29 #[.slice A n c] w fun e w' => ClR w w' a e := by
  cases A with
  | none =>
    have h0 : c = 0 ∧ n = 0 := by
      rcases h1.2.2 with ⟨-, h⟩ | ⟨_, h, _⟩
      · exact ⟨h, by have := h1.1; omega⟩
      · cases h
    obtain ⟨rfl, rfl⟩ := h0
    have hnil : a = [] := List.eq_nil_of_length_eq_zero ha
    subst hnil
    clear h1 ha
    have hne := fun wx => Lib.run_eql_slice_nil (P := Try.prog) wx 22 5 none 0 0 0 0 Try.underlying22
    go_enter Try.func29, Try.ntmps29
    go_wp2
    go_ret
    exact ⟨_, rfl, OwnB.nil_ _ _ _, World.grownBy.refl _ _⟩
  | some ad =>
    have HR := Lib.hid h1
    have HN := Lib.hid ha
    have hne := fun wx => Lib.run_eql_slice_nil (P := Try.prog) wx 22 5 (some ad) n c 0 0 Try.underlying22
    clear h1 ha
    go_enter Try.func29, Try.ntmps29
    go_wp2_with (first
      | (at_builtin
         refine wpList_appB byteT rfl (.tmp 5) (.tmp 6) rfl (OwnB.new0 w w.heap.size 5 (Nat.le_refl _)) (HR.out.alloc (Nat.le_refl _) _) (by first | rfl | go_simp) (by rw [HN.out]; first | rfl | go_simp) (by rw [HN.out]; simp; omega) (by simp) ?_
         intro v2 w2 o2 g2 _ a2
         rw [List.nil_append] at o2
         have O2 := Lib.hid o2
         have G2 := Lib.hid (grown_row (grown_alloc w (.cells #[] 5) none) g2 (fun z hz => by simp [Value.ownBlock] at hz; omega))
         clear o2 g2 a2))
    go_ret
    exact ⟨_, rfl, O2.out, G2.out⟩
end
end Go.Proofs.Ytcfhpoigfkljpaa
