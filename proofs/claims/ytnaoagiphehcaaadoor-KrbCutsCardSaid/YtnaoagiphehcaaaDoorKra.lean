/- Messages: what they hold, their kinds' tags; the walk of krb.tagsOf. -/
import Derived.Test.YtnaoagiphehcaaaDoorTkd
import Derived.Test.YtnaoagiphehcaaaDoorShf
import Derived.Sort.OwnSortedInts
namespace Go.Proofs.YtnaoagiphehcaaaDoor
open Go.RowKit

/-- What a message holds. -/
structure Msg where
  kd : Int
  c : ByteArray
  s : ByteArray
  no : Nat
  en : Int
  fl : Int
  t : List UInt8
  sl : List UInt8
  co : Int
/-- Its cells, its two rows of bytes being where they are. -/
def kcells (m : Msg) (T : Option Addr) (tc : Nat) (S : Option Addr) (sc : Nat) : List Value :=
  [.int .i64 m.kd, .string m.c, .string m.s, .int .u64 (m.no : Int), .int .i64 m.en, .int .i64 m.fl, .slice T m.t.length tc, .slice S m.sl.length sc, .int .i64 m.co]
theorem kcells_length (m : Msg) (T : Option Addr) (tc : Nat) (S : Option Addr) (sc : Nat) : (kcells m T tc S sc).length = 9 := rfl
theorem kcells_one (m : Msg) (T : Option Addr) (tc : Nat) (S : Option Addr) (sc : Nat) : ∀ u ∈ kcells m T tc S sc, u.oneCell' = true := by
  intro u hu
  simp only [kcells, List.mem_cons, List.not_mem_nil, or_false] at hu
  rcases hu with rfl | rfl | rfl | rfl | rfl | rfl | rfl | rfl | rfl <;> rfl
/-- Its bytes are there, ahead of B. -/
def KM (w : World) (B : Nat) (m : Msg) (T : Option Addr) (tc : Nat) (S : Option Addr) (sc : Nat) : Prop := RB w B T m.t tc ∧ RB w B S m.sl sc
theorem KM.below {w w' : World} {B : Nat} {m : Msg} {T : Option Addr} {tc : Nat} {S : Option Addr} {sc : Nat} (h : KM w B m T tc S sc) (hb : Below B w w') : KM w' B m T tc S sc := ⟨h.1.below hb, h.2.below hb⟩
theorem KM.kept {w w' : World} {B : Nat} {m : Msg} {T : Option Addr} {tc : Nat} {S : Option Addr} {sc : Nat} (h : KM w B m T tc S sc) (hg : w.grownBy w' none) (hB : B ≤ w.heap.size) : KM w' B m T tc S sc := ⟨h.1.kept hg hB, h.2.kept hg hB⟩
/-- The tags of a kind. -/
def tagsK (k : Int) : List Int :=
  if k = 1 then [31, 32, 33, 34, 35, 36] else if k = 2 then [31, 33, 34, 35, 36, 37, 38] else if k = 3 then [31, 34, 37, 38] else if k = 4 then [31, 34, 37, 38]
  else if k = 5 then [31, 34, 38] else if k = 6 then [31, 34, 38] else if k = 7 then [31, 34, 39] else []
/-- A number as one without a sign. -/
def u64n (n : Int) : Nat := (n % 18446744073709551616).toNat
theorem u64n_lt (n : Int) : u64n n < 18446744073709551616 := by unfold u64n; omega
theorem u64n_wrap (n : Int) : IntKind.u64.wrap n = (u64n n : Int) := by
  show n % 18446744073709551616 = _
  unfold u64n
  omega
/-- A field's bytes. -/
def valK (m : Msg) (tag : Int) : List UInt8 :=
  if tag = 31 then numB (u64n m.kd) else if tag = 32 then m.c.data.toList else if tag = 33 then m.s.data.toList else if tag = 34 then numB m.no
  else if tag = 35 then numB (u64n m.en) else if tag = 36 then numB (u64n m.fl) else if tag = 37 then m.t else if tag = 38 then m.sl else if tag = 39 then numB (u64n m.co) else []
/-- Is a field that its kind has right? -/
def mayK (m : Msg) (tag : Int) : Bool :=
  if tag = 32 then parses m.c.data.toList else if tag = 33 then parses m.s.data.toList else if tag = 35 then timeOk m.en else if tag = 36 then flagsOk m.fl
  else if tag = 37 then decide (m.t.length ≤ 3000) else if tag = 38 then decide (m.sl.length ≤ 3000) else if tag = 39 then decide (1 ≤ m.co) && decide (m.co ≤ 999) else true
def stepK (m : Msg) (tag : Int) : Bool := if (tagsK m.kd).contains tag then mayK m tag else decide ((valK m tag).length = 0)
/-- Is a message right? -/
def okK (m : Msg) : Bool := decide (tagsK m.kd ≠ []) && [32, 33, 34, 35, 36, 37, 38, 39].all (stepK m)

theorem wpList_appIs {P : Program} {ops : Array Oper} {Q : Exit → Act → World → Prop} {rest : List Oper} {o : Oper} {a : Act} {w : World} {t e : TypeId} (ht : P.underlying t = some (.slice e)) (hinf : (P.info? e).map (fun i => (i.zero, i.size, i.bytes)) = some (some (.int .i64 0), 1, 8)) (hgd : o.guard = none) (s x : Operand)
    (ho : o.op = .call { callee := .builtin .append, args := #[s, x], argTypes := #[t, t] })
    {base : Nat} {v : Value} {l news : List Int} (hown : w.ownsRow base e 1 v l.length (icells l)) {B : Nat} {A : Option Addr} {c : Nat} (hr : RI w B A news c)
    (hs : a.eval s = v) (hx : a.eval x = .slice A news.length c) (hlen : l.length + news.length ≤ 1000000000) (hbase : base ≤ w.heap.size)
    (h : ∀ v' w', w'.ownsRow base e 1 v' (l ++ news).length (icells (l ++ news)) → w.grownBy w' v.ownBlock → wpList P ops Q rest (a.put o.dst v') w') : wpList P ops Q (o :: rest) a w := by
  refine wpList_plain hgd fun K hK => ?_
  obtain ⟨v', w', hrun, h2, h3⟩ := run_appI ht hinf o.type hown hr hlen hbase
  unfold Oper.wp execOp
  simp only [ho, resolve, invoke, builtin, Sem.run_bind, Sem.run_pure, Result.andThen_ok, List.map_toArray, List.map_cons, List.map_nil, hs, hx, hrun]
  exact hK _ _ (h v' w' h2 h3)
theorem RI.fresh (w : World) (t : TypeId) (l : List Int) (n : Nat) (hn : l.length = n) (hm : n ≤ maxLen) : RI (w.alloc (.cells (icells l).toArray t)) (w.heap.size + 1) (some ⟨w.heap.size, 0, none⟩) l n := by
  have := RI.new w t l n hn hm _ (CB.new w t (icells l))
  rwa [World.size_alloc] at this

/-- The shelf's sort on a row of the call's own. -/
theorem sortI_any (l m : List Int) (n base : Nat) (v : Value) (w : World) (hn : l.length = n) (hp : 0 < n) (hb : n ≤ 1000) (hm : l.mergeSort (fun x y => decide (x ≤ y)) = m) (h : w.ownsRow base 3 1 v n (icells l)) :
    Calls Tryd.prog 100 #[v] w fun e w' => e = .returned (.tuple #[]) ∧ w'.ownsRow base 3 1 v n (icells m) ∧ w.grownBy w' v.ownBlock := by
  subst hn
  rcases h.2 with ⟨hv, hl⟩ | ⟨g, cap, cur, hv, hg, hc, h1, h2, h3, h4⟩
  · omega
  · subst hv
    have ht : cur.toList.take l.length = l.map (Value.int .i64) := by rw [Nat.mul_one] at h4; exact h4
    have hml : m.length = l.length := by rw [← hm, List.length_mergeSort]
    refine (sh_slices_Sort_int g 0 cap l w (holds_of_blockI hc ht) (Array.getElem?_eq_some_iff.1 hc).1 (by omega)).mono ?_
    rintro e w' ⟨rfl, k, os, rfl⟩
    rw [hm]
    exact ⟨rfl, ownsRow_sortedI hml hg hc h1 h2 h3, grownBy_sortedI _⟩

def Tagged (w : World) (k : Int) (e : Ending) (w' : World) : Prop := ∃ v, e = .returned v ∧ IsI w' v (tagsK k) ∧ w.grownBy w' none
theorem IsI.of_own {w : World} {base : Nat} {e : TypeId} {v : Value} {l : List Int} {n : Nat} (hn : l.length = n) (h : w.ownsRow base e 1 v n (icells l)) : IsI w v l := by
  subst hn
  obtain ⟨A, c, rfl⟩ := row_shape h
  exact ⟨A, c, rfl, RI.of_own h⟩
theorem grown_own6' {w a b : World} {row : Option Nat} (h : w.grownBy a none) (k : a.grownBy b row) (hr : ∀ x, row = some x → w.heap.size ≤ x ∧ x < a.heap.size) : w.grownBy b none := grownR h k (fun x hx => (hr x hx).1)
set_option maxRecDepth 10000 in
set_option maxHeartbeats 1000000 in
theorem tagsOf_1 (w : World) : Calls Tryd.prog 75 #[.int .i64 1] w fun e w' => Tagged w 1 e w' := by
  have O0 := Lib.hid (show (w.alloc (.cells #[.int .i64 31, .int .i64 34] 3)).ownsRow w.heap.size 3 1 (.slice (some ⟨w.heap.size, 0, none⟩) 2 2) 2 (icells [31, 34]) from ⟨rfl, .inr ⟨w.heap.size, 2, #[.int .i64 31, .int .i64 34], rfl, Nat.le_refl _, heap_alloc_new w _, Nat.le_refl _, by simp [maxLen], rfl, rfl⟩⟩)
  have G0 := Lib.hid (grown_alloc w (.cells #[.int .i64 31, .int .i64 34] 3) none)
  have S0 := Lib.hid G0.out.size
  have TK0 := Lib.hid True.intro
  have HMS := Lib.hid (show ([31, 34, 32, 33, 35, 36] : List Int).mergeSort (fun x y => decide (x ≤ y)) = [31, 32, 33, 34, 35, 36] by simp [List.mergeSort])
  have HT := Lib.hid (show tagsK 1 = [31, 32, 33, 34, 35, 36] from rfl)
  go_enter Tryd.func75, Tryd.ntmps75
  go_wp2_with (first
    | (go_at_call 100; refine (sortI_any [31, 34, 32, 33, 35, 36] [31, 32, 33, 34, 35, 36] 6 w.heap.size _ _ rfl (by omega) (by omega) HMS.out O1.out).mono ?_; rintro e ws ⟨rfl, os, gs⟩; have OS := Lib.hid (IsI.of_own rfl os); have hne := World.ownsRow.lt O1.out; have GS := Lib.hid (grown_own6' G1.out gs hne); clear os gs hne)
    | (at_builtin; have hx := TK0; clear hx; refine wpList_appIs (l := [31, 34]) (news := [32, 33, 35, 36]) Tryd.underlying98 intInfo rfl (.tmp 18) (.tmp 19) rfl (base := w.heap.size) (World.ownsRow.alloc O0.out (.cells #[.int .i64 32, .int .i64 33, .int .i64 35, .int .i64 36] 3)) (RI.fresh (w.alloc (.cells #[.int .i64 31, .int .i64 34] 3)) 3 [32, 33, 35, 36] 4 rfl (by simp [maxLen])) rfl (by first | rfl | go_simp) (by decide) (Nat.le_trans S0.out (grown_alloc (w.alloc (.cells #[.int .i64 31, .int .i64 34] 3)) (.cells #[.int .i64 32, .int .i64 33, .int .i64 35, .int .i64 36] 3) none).size) ?_; intro v1 w1 o1 g1; have hne := World.ownsRow.lt (World.ownsRow.alloc O0.out (.cells #[.int .i64 32, .int .i64 33, .int .i64 35, .int .i64 36] 3)); have G1 := Lib.hid (grown_own6' (grown_trans' G0.out (grown_alloc (w.alloc (.cells #[.int .i64 31, .int .i64 34] 3)) (.cells #[.int .i64 32, .int .i64 33, .int .i64 35, .int .i64 36] 3) none)) g1 hne); have O1 := Lib.hid (show w1.ownsRow w.heap.size 3 1 v1 6 (icells [31, 34, 32, 33, 35, 36]) from o1); have S1 := Lib.hid (Nat.le_trans (Nat.le_trans S0.out (grown_alloc (w.alloc (.cells #[.int .i64 31, .int .i64 34] 3)) (.cells #[.int .i64 32, .int .i64 33, .int .i64 35, .int .i64 36] 3) none).size) g1.size); have TK1 := Lib.hid True.intro; clear o1 g1 hne))
  go_ret
  exact ⟨_, rfl, by rw [HT.out]; exact OS.out, GS.out⟩
set_option maxRecDepth 10000 in
set_option maxHeartbeats 1000000 in
theorem tagsOf_2 (w : World) : Calls Tryd.prog 75 #[.int .i64 2] w fun e w' => Tagged w 2 e w' := by
  have O0 := Lib.hid (show (w.alloc (.cells #[.int .i64 31, .int .i64 34] 3)).ownsRow w.heap.size 3 1 (.slice (some ⟨w.heap.size, 0, none⟩) 2 2) 2 (icells [31, 34]) from ⟨rfl, .inr ⟨w.heap.size, 2, #[.int .i64 31, .int .i64 34], rfl, Nat.le_refl _, heap_alloc_new w _, Nat.le_refl _, by simp [maxLen], rfl, rfl⟩⟩)
  have G0 := Lib.hid (grown_alloc w (.cells #[.int .i64 31, .int .i64 34] 3) none)
  have S0 := Lib.hid G0.out.size
  have TK0 := Lib.hid True.intro
  have HMS := Lib.hid (show ([31, 34, 33, 35, 36, 37, 38] : List Int).mergeSort (fun x y => decide (x ≤ y)) = [31, 33, 34, 35, 36, 37, 38] by simp [List.mergeSort])
  have HT := Lib.hid (show tagsK 2 = [31, 33, 34, 35, 36, 37, 38] from rfl)
  go_enter Tryd.func75, Tryd.ntmps75
  go_wp2_with (first
    | (go_at_call 100; refine (sortI_any [31, 34, 33, 35, 36, 37, 38] [31, 33, 34, 35, 36, 37, 38] 7 w.heap.size _ _ rfl (by omega) (by omega) HMS.out O3.out).mono ?_; rintro e ws ⟨rfl, os, gs⟩; have OS := Lib.hid (IsI.of_own rfl os); have hne := World.ownsRow.lt O3.out; have GS := Lib.hid (grown_own6' G3.out gs hne); clear os gs hne)
    | (at_builtin; have hx := TK2; clear hx; refine wpList_appIs (l := [31, 34, 33, 35, 36, 37]) (news := [38]) Tryd.underlying98 intInfo rfl (.tmp 27) (.tmp 28) rfl (base := w.heap.size) (World.ownsRow.alloc O2.out (.cells #[.int .i64 38] 3)) (RI.fresh w2 3 [38] 1 rfl (by simp [maxLen])) rfl (by first | rfl | go_simp) (by decide) (Nat.le_trans S2.out (grown_alloc w2 (.cells #[.int .i64 38] 3) none).size) ?_; intro v3 w3 o3 g3; have hne := World.ownsRow.lt (World.ownsRow.alloc O2.out (.cells #[.int .i64 38] 3)); have G3 := Lib.hid (grown_own6' (grown_trans' G2.out (grown_alloc w2 (.cells #[.int .i64 38] 3) none)) g3 hne); have O3 := Lib.hid (show w3.ownsRow w.heap.size 3 1 v3 7 (icells [31, 34, 33, 35, 36, 37, 38]) from o3); have S3 := Lib.hid (Nat.le_trans (Nat.le_trans S2.out (grown_alloc w2 (.cells #[.int .i64 38] 3) none).size) g3.size); have TK3 := Lib.hid True.intro; clear o3 g3 hne)
    | (at_builtin; have hx := TK1; clear hx; refine wpList_appIs (l := [31, 34, 33, 35, 36]) (news := [37]) Tryd.underlying98 intInfo rfl (.tmp 24) (.tmp 25) rfl (base := w.heap.size) (World.ownsRow.alloc O1.out (.cells #[.int .i64 37] 3)) (RI.fresh w1 3 [37] 1 rfl (by simp [maxLen])) rfl (by first | rfl | go_simp) (by decide) (Nat.le_trans S1.out (grown_alloc w1 (.cells #[.int .i64 37] 3) none).size) ?_; intro v2 w2 o2 g2; have hne := World.ownsRow.lt (World.ownsRow.alloc O1.out (.cells #[.int .i64 37] 3)); have G2 := Lib.hid (grown_own6' (grown_trans' G1.out (grown_alloc w1 (.cells #[.int .i64 37] 3) none)) g2 hne); have O2 := Lib.hid (show w2.ownsRow w.heap.size 3 1 v2 6 (icells [31, 34, 33, 35, 36, 37]) from o2); have S2 := Lib.hid (Nat.le_trans (Nat.le_trans S1.out (grown_alloc w1 (.cells #[.int .i64 37] 3) none).size) g2.size); have TK2 := Lib.hid True.intro; clear o2 g2 hne)
    | (at_builtin; have hx := TK0; clear hx; refine wpList_appIs (l := [31, 34]) (news := [33, 35, 36]) Tryd.underlying98 intInfo rfl (.tmp 21) (.tmp 22) rfl (base := w.heap.size) (World.ownsRow.alloc O0.out (.cells #[.int .i64 33, .int .i64 35, .int .i64 36] 3)) (RI.fresh (w.alloc (.cells #[.int .i64 31, .int .i64 34] 3)) 3 [33, 35, 36] 3 rfl (by simp [maxLen])) rfl (by first | rfl | go_simp) (by decide) (Nat.le_trans S0.out (grown_alloc (w.alloc (.cells #[.int .i64 31, .int .i64 34] 3)) (.cells #[.int .i64 33, .int .i64 35, .int .i64 36] 3) none).size) ?_; intro v1 w1 o1 g1; have hne := World.ownsRow.lt (World.ownsRow.alloc O0.out (.cells #[.int .i64 33, .int .i64 35, .int .i64 36] 3)); have G1 := Lib.hid (grown_own6' (grown_trans' G0.out (grown_alloc (w.alloc (.cells #[.int .i64 31, .int .i64 34] 3)) (.cells #[.int .i64 33, .int .i64 35, .int .i64 36] 3) none)) g1 hne); have O1 := Lib.hid (show w1.ownsRow w.heap.size 3 1 v1 5 (icells [31, 34, 33, 35, 36]) from o1); have S1 := Lib.hid (Nat.le_trans (Nat.le_trans S0.out (grown_alloc (w.alloc (.cells #[.int .i64 31, .int .i64 34] 3)) (.cells #[.int .i64 33, .int .i64 35, .int .i64 36] 3) none).size) g1.size); have TK1 := Lib.hid True.intro; clear o1 g1 hne))
  go_ret
  exact ⟨_, rfl, by rw [HT.out]; exact OS.out, GS.out⟩
set_option maxRecDepth 10000 in
set_option maxHeartbeats 1000000 in
theorem tagsOf_3 (w : World) : Calls Tryd.prog 75 #[.int .i64 3] w fun e w' => Tagged w 3 e w' := by
  have O0 := Lib.hid (show (w.alloc (.cells #[.int .i64 31, .int .i64 34] 3)).ownsRow w.heap.size 3 1 (.slice (some ⟨w.heap.size, 0, none⟩) 2 2) 2 (icells [31, 34]) from ⟨rfl, .inr ⟨w.heap.size, 2, #[.int .i64 31, .int .i64 34], rfl, Nat.le_refl _, heap_alloc_new w _, Nat.le_refl _, by simp [maxLen], rfl, rfl⟩⟩)
  have G0 := Lib.hid (grown_alloc w (.cells #[.int .i64 31, .int .i64 34] 3) none)
  have S0 := Lib.hid G0.out.size
  have TK0 := Lib.hid True.intro
  have HMS := Lib.hid (show ([31, 34, 37, 38] : List Int).mergeSort (fun x y => decide (x ≤ y)) = [31, 34, 37, 38] by simp [List.mergeSort])
  have HT := Lib.hid (show tagsK 3 = [31, 34, 37, 38] from rfl)
  go_enter Tryd.func75, Tryd.ntmps75
  go_wp2_with (first
    | (go_at_call 100; refine (sortI_any [31, 34, 37, 38] [31, 34, 37, 38] 4 w.heap.size _ _ rfl (by omega) (by omega) HMS.out O2.out).mono ?_; rintro e ws ⟨rfl, os, gs⟩; have OS := Lib.hid (IsI.of_own rfl os); have hne := World.ownsRow.lt O2.out; have GS := Lib.hid (grown_own6' G2.out gs hne); clear os gs hne)
    | (at_builtin; have hx := TK1; clear hx; refine wpList_appIs (l := [31, 34, 37]) (news := [38]) Tryd.underlying98 intInfo rfl (.tmp 27) (.tmp 28) rfl (base := w.heap.size) (World.ownsRow.alloc O1.out (.cells #[.int .i64 38] 3)) (RI.fresh w1 3 [38] 1 rfl (by simp [maxLen])) rfl (by first | rfl | go_simp) (by decide) (Nat.le_trans S1.out (grown_alloc w1 (.cells #[.int .i64 38] 3) none).size) ?_; intro v2 w2 o2 g2; have hne := World.ownsRow.lt (World.ownsRow.alloc O1.out (.cells #[.int .i64 38] 3)); have G2 := Lib.hid (grown_own6' (grown_trans' G1.out (grown_alloc w1 (.cells #[.int .i64 38] 3) none)) g2 hne); have O2 := Lib.hid (show w2.ownsRow w.heap.size 3 1 v2 4 (icells [31, 34, 37, 38]) from o2); have S2 := Lib.hid (Nat.le_trans (Nat.le_trans S1.out (grown_alloc w1 (.cells #[.int .i64 38] 3) none).size) g2.size); have TK2 := Lib.hid True.intro; clear o2 g2 hne)
    | (at_builtin; have hx := TK0; clear hx; refine wpList_appIs (l := [31, 34]) (news := [37]) Tryd.underlying98 intInfo rfl (.tmp 24) (.tmp 25) rfl (base := w.heap.size) (World.ownsRow.alloc O0.out (.cells #[.int .i64 37] 3)) (RI.fresh (w.alloc (.cells #[.int .i64 31, .int .i64 34] 3)) 3 [37] 1 rfl (by simp [maxLen])) rfl (by first | rfl | go_simp) (by decide) (Nat.le_trans S0.out (grown_alloc (w.alloc (.cells #[.int .i64 31, .int .i64 34] 3)) (.cells #[.int .i64 37] 3) none).size) ?_; intro v1 w1 o1 g1; have hne := World.ownsRow.lt (World.ownsRow.alloc O0.out (.cells #[.int .i64 37] 3)); have G1 := Lib.hid (grown_own6' (grown_trans' G0.out (grown_alloc (w.alloc (.cells #[.int .i64 31, .int .i64 34] 3)) (.cells #[.int .i64 37] 3) none)) g1 hne); have O1 := Lib.hid (show w1.ownsRow w.heap.size 3 1 v1 3 (icells [31, 34, 37]) from o1); have S1 := Lib.hid (Nat.le_trans (Nat.le_trans S0.out (grown_alloc (w.alloc (.cells #[.int .i64 31, .int .i64 34] 3)) (.cells #[.int .i64 37] 3) none).size) g1.size); have TK1 := Lib.hid True.intro; clear o1 g1 hne))
  go_ret
  exact ⟨_, rfl, by rw [HT.out]; exact OS.out, GS.out⟩
set_option maxRecDepth 10000 in
set_option maxHeartbeats 1000000 in
theorem tagsOf_4 (w : World) : Calls Tryd.prog 75 #[.int .i64 4] w fun e w' => Tagged w 4 e w' := by
  have O0 := Lib.hid (show (w.alloc (.cells #[.int .i64 31, .int .i64 34] 3)).ownsRow w.heap.size 3 1 (.slice (some ⟨w.heap.size, 0, none⟩) 2 2) 2 (icells [31, 34]) from ⟨rfl, .inr ⟨w.heap.size, 2, #[.int .i64 31, .int .i64 34], rfl, Nat.le_refl _, heap_alloc_new w _, Nat.le_refl _, by simp [maxLen], rfl, rfl⟩⟩)
  have G0 := Lib.hid (grown_alloc w (.cells #[.int .i64 31, .int .i64 34] 3) none)
  have S0 := Lib.hid G0.out.size
  have TK0 := Lib.hid True.intro
  have HMS := Lib.hid (show ([31, 34, 37, 38] : List Int).mergeSort (fun x y => decide (x ≤ y)) = [31, 34, 37, 38] by simp [List.mergeSort])
  have HT := Lib.hid (show tagsK 4 = [31, 34, 37, 38] from rfl)
  go_enter Tryd.func75, Tryd.ntmps75
  go_wp2_with (first
    | (go_at_call 100; refine (sortI_any [31, 34, 37, 38] [31, 34, 37, 38] 4 w.heap.size _ _ rfl (by omega) (by omega) HMS.out O2.out).mono ?_; rintro e ws ⟨rfl, os, gs⟩; have OS := Lib.hid (IsI.of_own rfl os); have hne := World.ownsRow.lt O2.out; have GS := Lib.hid (grown_own6' G2.out gs hne); clear os gs hne)
    | (at_builtin; have hx := TK1; clear hx; refine wpList_appIs (l := [31, 34, 37]) (news := [38]) Tryd.underlying98 intInfo rfl (.tmp 27) (.tmp 28) rfl (base := w.heap.size) (World.ownsRow.alloc O1.out (.cells #[.int .i64 38] 3)) (RI.fresh w1 3 [38] 1 rfl (by simp [maxLen])) rfl (by first | rfl | go_simp) (by decide) (Nat.le_trans S1.out (grown_alloc w1 (.cells #[.int .i64 38] 3) none).size) ?_; intro v2 w2 o2 g2; have hne := World.ownsRow.lt (World.ownsRow.alloc O1.out (.cells #[.int .i64 38] 3)); have G2 := Lib.hid (grown_own6' (grown_trans' G1.out (grown_alloc w1 (.cells #[.int .i64 38] 3) none)) g2 hne); have O2 := Lib.hid (show w2.ownsRow w.heap.size 3 1 v2 4 (icells [31, 34, 37, 38]) from o2); have S2 := Lib.hid (Nat.le_trans (Nat.le_trans S1.out (grown_alloc w1 (.cells #[.int .i64 38] 3) none).size) g2.size); have TK2 := Lib.hid True.intro; clear o2 g2 hne)
    | (at_builtin; have hx := TK0; clear hx; refine wpList_appIs (l := [31, 34]) (news := [37]) Tryd.underlying98 intInfo rfl (.tmp 24) (.tmp 25) rfl (base := w.heap.size) (World.ownsRow.alloc O0.out (.cells #[.int .i64 37] 3)) (RI.fresh (w.alloc (.cells #[.int .i64 31, .int .i64 34] 3)) 3 [37] 1 rfl (by simp [maxLen])) rfl (by first | rfl | go_simp) (by decide) (Nat.le_trans S0.out (grown_alloc (w.alloc (.cells #[.int .i64 31, .int .i64 34] 3)) (.cells #[.int .i64 37] 3) none).size) ?_; intro v1 w1 o1 g1; have hne := World.ownsRow.lt (World.ownsRow.alloc O0.out (.cells #[.int .i64 37] 3)); have G1 := Lib.hid (grown_own6' (grown_trans' G0.out (grown_alloc (w.alloc (.cells #[.int .i64 31, .int .i64 34] 3)) (.cells #[.int .i64 37] 3) none)) g1 hne); have O1 := Lib.hid (show w1.ownsRow w.heap.size 3 1 v1 3 (icells [31, 34, 37]) from o1); have S1 := Lib.hid (Nat.le_trans (Nat.le_trans S0.out (grown_alloc (w.alloc (.cells #[.int .i64 31, .int .i64 34] 3)) (.cells #[.int .i64 37] 3) none).size) g1.size); have TK1 := Lib.hid True.intro; clear o1 g1 hne))
  go_ret
  exact ⟨_, rfl, by rw [HT.out]; exact OS.out, GS.out⟩
set_option maxRecDepth 10000 in
set_option maxHeartbeats 1000000 in
theorem tagsOf_5 (w : World) : Calls Tryd.prog 75 #[.int .i64 5] w fun e w' => Tagged w 5 e w' := by
  have O0 := Lib.hid (show (w.alloc (.cells #[.int .i64 31, .int .i64 34] 3)).ownsRow w.heap.size 3 1 (.slice (some ⟨w.heap.size, 0, none⟩) 2 2) 2 (icells [31, 34]) from ⟨rfl, .inr ⟨w.heap.size, 2, #[.int .i64 31, .int .i64 34], rfl, Nat.le_refl _, heap_alloc_new w _, Nat.le_refl _, by simp [maxLen], rfl, rfl⟩⟩)
  have G0 := Lib.hid (grown_alloc w (.cells #[.int .i64 31, .int .i64 34] 3) none)
  have S0 := Lib.hid G0.out.size
  have TK0 := Lib.hid True.intro
  have HMS := Lib.hid (show ([31, 34, 38] : List Int).mergeSort (fun x y => decide (x ≤ y)) = [31, 34, 38] by simp [List.mergeSort])
  have HT := Lib.hid (show tagsK 5 = [31, 34, 38] from rfl)
  go_enter Tryd.func75, Tryd.ntmps75
  go_wp2_with (first
    | (go_at_call 100; refine (sortI_any [31, 34, 38] [31, 34, 38] 3 w.heap.size _ _ rfl (by omega) (by omega) HMS.out O1.out).mono ?_; rintro e ws ⟨rfl, os, gs⟩; have OS := Lib.hid (IsI.of_own rfl os); have hne := World.ownsRow.lt O1.out; have GS := Lib.hid (grown_own6' G1.out gs hne); clear os gs hne)
    | (at_builtin; have hx := TK0; clear hx; refine wpList_appIs (l := [31, 34]) (news := [38]) Tryd.underlying98 intInfo rfl (.tmp 27) (.tmp 28) rfl (base := w.heap.size) (World.ownsRow.alloc O0.out (.cells #[.int .i64 38] 3)) (RI.fresh (w.alloc (.cells #[.int .i64 31, .int .i64 34] 3)) 3 [38] 1 rfl (by simp [maxLen])) rfl (by first | rfl | go_simp) (by decide) (Nat.le_trans S0.out (grown_alloc (w.alloc (.cells #[.int .i64 31, .int .i64 34] 3)) (.cells #[.int .i64 38] 3) none).size) ?_; intro v1 w1 o1 g1; have hne := World.ownsRow.lt (World.ownsRow.alloc O0.out (.cells #[.int .i64 38] 3)); have G1 := Lib.hid (grown_own6' (grown_trans' G0.out (grown_alloc (w.alloc (.cells #[.int .i64 31, .int .i64 34] 3)) (.cells #[.int .i64 38] 3) none)) g1 hne); have O1 := Lib.hid (show w1.ownsRow w.heap.size 3 1 v1 3 (icells [31, 34, 38]) from o1); have S1 := Lib.hid (Nat.le_trans (Nat.le_trans S0.out (grown_alloc (w.alloc (.cells #[.int .i64 31, .int .i64 34] 3)) (.cells #[.int .i64 38] 3) none).size) g1.size); have TK1 := Lib.hid True.intro; clear o1 g1 hne))
  go_ret
  exact ⟨_, rfl, by rw [HT.out]; exact OS.out, GS.out⟩
set_option maxRecDepth 10000 in
set_option maxHeartbeats 1000000 in
theorem tagsOf_6 (w : World) : Calls Tryd.prog 75 #[.int .i64 6] w fun e w' => Tagged w 6 e w' := by
  have O0 := Lib.hid (show (w.alloc (.cells #[.int .i64 31, .int .i64 34] 3)).ownsRow w.heap.size 3 1 (.slice (some ⟨w.heap.size, 0, none⟩) 2 2) 2 (icells [31, 34]) from ⟨rfl, .inr ⟨w.heap.size, 2, #[.int .i64 31, .int .i64 34], rfl, Nat.le_refl _, heap_alloc_new w _, Nat.le_refl _, by simp [maxLen], rfl, rfl⟩⟩)
  have G0 := Lib.hid (grown_alloc w (.cells #[.int .i64 31, .int .i64 34] 3) none)
  have S0 := Lib.hid G0.out.size
  have TK0 := Lib.hid True.intro
  have HMS := Lib.hid (show ([31, 34, 38] : List Int).mergeSort (fun x y => decide (x ≤ y)) = [31, 34, 38] by simp [List.mergeSort])
  have HT := Lib.hid (show tagsK 6 = [31, 34, 38] from rfl)
  go_enter Tryd.func75, Tryd.ntmps75
  go_wp2_with (first
    | (go_at_call 100; refine (sortI_any [31, 34, 38] [31, 34, 38] 3 w.heap.size _ _ rfl (by omega) (by omega) HMS.out O1.out).mono ?_; rintro e ws ⟨rfl, os, gs⟩; have OS := Lib.hid (IsI.of_own rfl os); have hne := World.ownsRow.lt O1.out; have GS := Lib.hid (grown_own6' G1.out gs hne); clear os gs hne)
    | (at_builtin; have hx := TK0; clear hx; refine wpList_appIs (l := [31, 34]) (news := [38]) Tryd.underlying98 intInfo rfl (.tmp 27) (.tmp 28) rfl (base := w.heap.size) (World.ownsRow.alloc O0.out (.cells #[.int .i64 38] 3)) (RI.fresh (w.alloc (.cells #[.int .i64 31, .int .i64 34] 3)) 3 [38] 1 rfl (by simp [maxLen])) rfl (by first | rfl | go_simp) (by decide) (Nat.le_trans S0.out (grown_alloc (w.alloc (.cells #[.int .i64 31, .int .i64 34] 3)) (.cells #[.int .i64 38] 3) none).size) ?_; intro v1 w1 o1 g1; have hne := World.ownsRow.lt (World.ownsRow.alloc O0.out (.cells #[.int .i64 38] 3)); have G1 := Lib.hid (grown_own6' (grown_trans' G0.out (grown_alloc (w.alloc (.cells #[.int .i64 31, .int .i64 34] 3)) (.cells #[.int .i64 38] 3) none)) g1 hne); have O1 := Lib.hid (show w1.ownsRow w.heap.size 3 1 v1 3 (icells [31, 34, 38]) from o1); have S1 := Lib.hid (Nat.le_trans (Nat.le_trans S0.out (grown_alloc (w.alloc (.cells #[.int .i64 31, .int .i64 34] 3)) (.cells #[.int .i64 38] 3) none).size) g1.size); have TK1 := Lib.hid True.intro; clear o1 g1 hne))
  go_ret
  exact ⟨_, rfl, by rw [HT.out]; exact OS.out, GS.out⟩
set_option maxRecDepth 10000 in
set_option maxHeartbeats 1000000 in
theorem tagsOf_7 (w : World) : Calls Tryd.prog 75 #[.int .i64 7] w fun e w' => Tagged w 7 e w' := by
  have O0 := Lib.hid (show (w.alloc (.cells #[.int .i64 31, .int .i64 34] 3)).ownsRow w.heap.size 3 1 (.slice (some ⟨w.heap.size, 0, none⟩) 2 2) 2 (icells [31, 34]) from ⟨rfl, .inr ⟨w.heap.size, 2, #[.int .i64 31, .int .i64 34], rfl, Nat.le_refl _, heap_alloc_new w _, Nat.le_refl _, by simp [maxLen], rfl, rfl⟩⟩)
  have G0 := Lib.hid (grown_alloc w (.cells #[.int .i64 31, .int .i64 34] 3) none)
  have S0 := Lib.hid G0.out.size
  have TK0 := Lib.hid True.intro
  have HMS := Lib.hid (show ([31, 34, 39] : List Int).mergeSort (fun x y => decide (x ≤ y)) = [31, 34, 39] by simp [List.mergeSort])
  have HT := Lib.hid (show tagsK 7 = [31, 34, 39] from rfl)
  go_enter Tryd.func75, Tryd.ntmps75
  go_wp2_with (first
    | (go_at_call 100; refine (sortI_any [31, 34, 39] [31, 34, 39] 3 w.heap.size _ _ rfl (by omega) (by omega) HMS.out O1.out).mono ?_; rintro e ws ⟨rfl, os, gs⟩; have OS := Lib.hid (IsI.of_own rfl os); have hne := World.ownsRow.lt O1.out; have GS := Lib.hid (grown_own6' G1.out gs hne); clear os gs hne)
    | (at_builtin; have hx := TK0; clear hx; refine wpList_appIs (l := [31, 34]) (news := [39]) Tryd.underlying98 intInfo rfl (.tmp 30) (.tmp 31) rfl (base := w.heap.size) (World.ownsRow.alloc O0.out (.cells #[.int .i64 39] 3)) (RI.fresh (w.alloc (.cells #[.int .i64 31, .int .i64 34] 3)) 3 [39] 1 rfl (by simp [maxLen])) rfl (by first | rfl | go_simp) (by decide) (Nat.le_trans S0.out (grown_alloc (w.alloc (.cells #[.int .i64 31, .int .i64 34] 3)) (.cells #[.int .i64 39] 3) none).size) ?_; intro v1 w1 o1 g1; have hne := World.ownsRow.lt (World.ownsRow.alloc O0.out (.cells #[.int .i64 39] 3)); have G1 := Lib.hid (grown_own6' (grown_trans' G0.out (grown_alloc (w.alloc (.cells #[.int .i64 31, .int .i64 34] 3)) (.cells #[.int .i64 39] 3) none)) g1 hne); have O1 := Lib.hid (show w1.ownsRow w.heap.size 3 1 v1 3 (icells [31, 34, 39]) from o1); have S1 := Lib.hid (Nat.le_trans (Nat.le_trans S0.out (grown_alloc (w.alloc (.cells #[.int .i64 31, .int .i64 34] 3)) (.cells #[.int .i64 39] 3) none).size) g1.size); have TK1 := Lib.hid True.intro; clear o1 g1 hne))
  go_ret
  exact ⟨_, rfl, by rw [HT.out]; exact OS.out, GS.out⟩
theorem tagsOf_any (k : Int) (w : World) : Calls Tryd.prog 75 #[.int .i64 k] w fun e w' => Tagged w k e w' := by
  by_cases h1 : k = 1
  · subst h1; exact tagsOf_1 w
  by_cases h2 : k = 2
  · subst h2; exact tagsOf_2 w
  by_cases h3 : k = 3
  · subst h3; exact tagsOf_3 w
  by_cases h4 : k = 4
  · subst h4; exact tagsOf_4 w
  by_cases h5 : k = 5
  · subst h5; exact tagsOf_5 w
  by_cases h6 : k = 6
  · subst h6; exact tagsOf_6 w
  by_cases h7 : k = 7
  · subst h7; exact tagsOf_7 w
  have HT := Lib.hid (show tagsK k = [] by unfold tagsK; rw [if_neg h1, if_neg h2, if_neg h3, if_neg h4, if_neg h5, if_neg h6, if_neg h7])
  have e1 : (k == 1) = false := by simpa using h1
  have e2 : (k == 2) = false := by simpa using h2
  have e3 : (k == 3) = false := by simpa using h3
  have e4 : (k == 4) = false := by simpa using h4
  have e5 : (k == 5) = false := by simpa using h5
  have e6 : (k == 6) = false := by simpa using h6
  have e7 : (k == 7) = false := by simpa using h7
  clear h1 h2 h3 h4 h5 h6 h7
  go_enter Tryd.func75, Tryd.ntmps75
  go_wp2
  go_ret
  exact ⟨_, rfl, by rw [HT.out]; exact ⟨none, 0, rfl, RI.nil_ _ _⟩, grown_alloc _ _ _⟩
end Go.Proofs.YtnaoagiphehcaaaDoor
