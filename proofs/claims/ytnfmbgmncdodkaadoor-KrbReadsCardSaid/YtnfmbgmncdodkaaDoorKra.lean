/- Messages: what they hold, their kinds' tags; the walk of krb.tagsOf. -/
import Derived.Test.YtnfmbgmncdodkaaDoorTkd
import Derived.Test.YtnfmbgmncdodkaaDoorShf
import Derived.Sort.OwnSortedInts
namespace Go.Proofs.YtnfmbgmncdodkaaDoor
open Go.RowKit

/-- What a message holds. -/
structure Msg where
  kd : Int
  c : ByteArray
  s : ByteArray
  no : Nat
  en : Int
  fl : Int
  t : List UInt8
  sl : List UInt8
  co : Int
/-- Its cells, its two rows of bytes being where they are. -/
def kcells (m : Msg) (T : Option Addr) (tc : Nat) (S : Option Addr) (sc : Nat) : List Value :=
  [.int .i64 m.kd, .string m.c, .string m.s, .int .u64 (m.no : Int), .int .i64 m.en, .int .i64 m.fl, .slice T m.t.length tc, .slice S m.sl.length sc, .int .i64 m.co]
theorem kcells_length (m : Msg) (T : Option Addr) (tc : Nat) (S : Option Addr) (sc : Nat) : (kcells m T tc S sc).length = 9 := rfl
theorem kcells_one (m : Msg) (T : Option Addr) (tc : Nat) (S : Option Addr) (sc : Nat) : ∀ u ∈ kcells m T tc S sc, u.oneCell' = true := by
  intro u hu
  simp only [kcells, List.mem_cons, List.not_mem_nil, or_false] at hu
  rcases hu with rfl | rfl | rfl | rfl | rfl | rfl | rfl | rfl | rfl <;> rfl
/-- Its bytes are there, ahead of B. -/
def KM (w : World) (B : Nat) (m : Msg) (T : Option Addr) (tc : Nat) (S : Option Addr) (sc : Nat) : Prop := RB w B T m.t tc ∧ RB w B S m.sl sc
theorem KM.below {w w' : World} {B : Nat} {m : Msg} {T : Option Addr} {tc : Nat} {S : Option Addr} {sc : Nat} (h : KM w B m T tc S sc) (hb : Below B w w') : KM w' B m T tc S sc := ⟨h.1.below hb, h.2.below hb⟩
theorem KM.kept {w w' : World} {B : Nat} {m : Msg} {T : Option Addr} {tc : Nat} {S : Option Addr} {sc : Nat} (h : KM w B m T tc S sc) (hg : w.grownBy w' none) (hB : B ≤ w.heap.size) : KM w' B m T tc S sc := ⟨h.1.kept hg hB, h.2.kept hg hB⟩
/-- The tags of a kind. -/
def tagsK (k : Int) : List Int :=
  if k = 1 then [31, 32, 33, 34, 35, 36] else if k = 2 then [31, 33, 34, 35, 36, 37, 38] else if k = 3 then [31, 34, 37, 38] else if k = 4 then [31, 34, 37, 38]
  else if k = 5 then [31, 34, 38] else if k = 6 then [31, 34, 38] else if k = 7 then [31, 34, 39] else []
/-- A number as one without a sign. -/
def u64n (n : Int) : Nat := (n % 18446744073709551616).toNat
theorem u64n_lt (n : Int) : u64n n < 18446744073709551616 := by unfold u64n; omega
theorem u64n_wrap (n : Int) : IntKind.u64.wrap n = (u64n n : Int) := by
  show n % 18446744073709551616 = _
  unfold u64n
  omega
/-- A field's bytes. -/
def valK (m : Msg) (tag : Int) : List UInt8 :=
  if tag = 31 then numB (u64n m.kd) else if tag = 32 then m.c.data.toList else if tag = 33 then m.s.data.toList else if tag = 34 then numB m.no
  else if tag = 35 then numB (u64n m.en) else if tag = 36 then numB (u64n m.fl) else if tag = 37 then m.t else if tag = 38 then m.sl else if tag = 39 then numB (u64n m.co) else []
/-- Is a field that its kind has right? -/
def mayK (m : Msg) (tag : Int) : Bool :=
  if tag = 32 then parses m.c.data.toList else if tag = 33 then parses m.s.data.toList else if tag = 35 then timeOk m.en else if tag = 36 then flagsOk m.fl
  else if tag = 37 then decide (m.t.length ≤ 3000) else if tag = 38 then decide (m.sl.length ≤ 3000) else if tag = 39 then decide (1 ≤ m.co) && decide (m.co ≤ 999) else true
def stepK (m : Msg) (tag : Int) : Bool := if (tagsK m.kd).contains tag then mayK m tag else decide ((valK m tag).length = 0)
/-- Is a message right? -/
def okK (m : Msg) : Bool := decide (tagsK m.kd ≠ []) && [32, 33, 34, 35, 36, 37, 38, 39].all (stepK m)

theorem wpList_appIs {P : Program} {ops : Array Oper} {Q : Exit → Act → World → Prop} {rest : List Oper} {o : Oper} {a : Act} {w : World} {t e : TypeId} (ht : P.underlying t = some (.slice e)) (hinf : (P.info? e).map (fun i => (i.zero, i.size, i.bytes)) = some (some (.int .i64 0), 1, 8)) (hgd : o.guard = none) (s x : Operand)
    (ho : o.op = .call { callee := .builtin .append, args := #[s, x], argTypes := #[t, t] })
    {base : Nat} {v : Value} {l news : List Int} (hown : w.ownsRow base e 1 v l.length (icells l)) {B : Nat} {A : Option Addr} {c : Nat} (hr : RI w B A news c)
    (hs : a.eval s = v) (hx : a.eval x = .slice A news.length c) (hlen : l.length + news.length ≤ 1000000000) (hbase : base ≤ w.heap.size)
    (h : ∀ v' w', w'.ownsRow base e 1 v' (l ++ news).length (icells (l ++ news)) → w.grownBy w' v.ownBlock → wpList P ops Q rest (a.put o.dst v') w') : wpList P ops Q (o :: rest) a w := by
  refine wpList_plain hgd fun K hK => ?_
  obtain ⟨v', w', hrun, h2, h3⟩ := run_appI ht hinf o.type hown hr hlen hbase
  unfold Oper.wp execOp
  simp only [ho, resolve, invoke, builtin, Sem.run_bind, Sem.run_pure, Result.andThen_ok, List.map_toArray, List.map_cons, List.map_nil, hs, hx, hrun]
  exact hK _ _ (h v' w' h2 h3)
theorem RI.fresh (w : World) (t : TypeId) (l : List Int) (n : Nat) (hn : l.length = n) (hm : n ≤ maxLen) : RI (w.alloc (.cells (icells l).toArray t)) (w.heap.size + 1) (some ⟨w.heap.size, 0, none⟩) l n := by
  have := RI.new w t l n hn hm _ (CB.new w t (icells l))
  rwa [World.size_alloc] at this

/-- The shelf's sort on a row of the call's own. -/
theorem sortI_any (l m : List Int) (n base : Nat) (v : Value) (w : World) (hn : l.length = n) (hp : 0 < n) (hb : n ≤ 1000) (hm : l.mergeSort (fun x y => decide (x ≤ y)) = m) (h : w.ownsRow base 3 1 v n (icells l)) :
    Calls Tryd.prog 47 #[v] w fun e w' => e = .returned (.tuple #[]) ∧ w'.ownsRow base 3 1 v n (icells m) ∧ w.grownBy w' v.ownBlock := by
  subst hn
  rcases h.2 with ⟨hv, hl⟩ | ⟨g, cap, cur, hv, hg, hc, h1, h2, h3, h4⟩
  · omega
  · subst hv
    have ht : cur.toList.take l.length = l.map (Value.int .i64) := by rw [Nat.mul_one] at h4; exact h4
    have hml : m.length = l.length := by rw [← hm, List.length_mergeSort]
    refine (sh_slices_Sort_int g 0 cap l w (holds_of_blockI hc ht) (Array.getElem?_eq_some_iff.1 hc).1 (by omega)).mono ?_
    rintro e w' ⟨rfl, k, os, rfl⟩
    rw [hm]
    exact ⟨rfl, ownsRow_sortedI hml hg hc h1 h2 h3, grownBy_sortedI _⟩

def Tagged (w : World) (k : Int) (e : Ending) (w' : World) : Prop := ∃ v, e = .returned v ∧ IsI w' v (tagsK k) ∧ w.grownBy w' none
theorem IsI.of_own {w : World} {base : Nat} {e : TypeId} {v : Value} {l : List Int} {n : Nat} (hn : l.length = n) (h : w.ownsRow base e 1 v n (icells l)) : IsI w v l := by
  subst hn
  obtain ⟨A, c, rfl⟩ := row_shape h
  exact ⟨A, c, rfl, RI.of_own h⟩
theorem grown_own6' {w a b : World} {row : Option Nat} (h : w.grownBy a none) (k : a.grownBy b row) (hr : ∀ x, row = some x → w.heap.size ≤ x ∧ x < a.heap.size) : w.grownBy b none := grownR h k (fun x hx => (hr x hx).1)
set_option maxRecDepth 10000 in
set_option maxHeartbeats 1000000 in
theorem tagsOf_1 (w : World) : Calls Tryd.prog 29 #[.int .i64 1] w fun e w' => Tagged w 1 e w' := by
  have O0 := Lib.hid (show (w.alloc (.cells #[.int .i64 31, .int .i64 34] 3)).ownsRow w.heap.size 3 1 (.slice (some ⟨w.heap.size, 0, none⟩) 2 2) 2 (icells [31, 34]) from ⟨rfl, .inr ⟨w.heap.size, 2, #[.int .i64 31, .int .i64 34], rfl, Nat.le_refl _, heap_alloc_new w _, Nat.le_refl _, by simp [maxLen], rfl, rfl⟩⟩)
  have G0 := Lib.hid (grown_alloc w (.cells #[.int .i64 31, .int .i64 34] 3) none)
  have S0 := Lib.hid G0.out.size
  have TK0 := Lib.hid True.intro
  have HMS := Lib.hid (show ([31, 34, 32, 33, 35, 36] : List Int).mergeSort (fun x y => decide (x ≤ y)) = [31, 32, 33, 34, 35, 36] by simp [List.mergeSort])
  have HT := Lib.hid (show tagsK 1 = [31, 32, 33, 34, 35, 36] from rfl)
  go_enter Tryd.func29, Tryd.ntmps29
  go_wp2_with (first
    | (go_at_call 47; refine (sortI_any [31, 34, 32, 33, 35, 36] [31, 32, 33, 34, 35, 36] 6 w.heap.size _ _ rfl (by omega) (by omega) HMS.out O1.out).mono ?_; rintro e ws ⟨rfl, os, gs⟩; have OS := Lib.hid (IsI.of_own rfl os); have hne := World.ownsRow.lt O1.out; have GS := Lib.hid (grown_own6' G1.out gs hne); clear os gs hne)
    | (at_builtin; have hx := TK0; clear hx; refine wpList_appIs (l := [31, 34]) (news := [32, 33, 35, 36]) Tryd.underlying75 intInfo rfl (.tmp 18) (.tmp 19) rfl (base := w.heap.size) (World.ownsRow.alloc O0.out (.cells #[.int .i64 32, .int .i64 33, .int .i64 35, .int .i64 36] 3)) (RI.fresh (w.alloc (.cells #[.int .i64 31, .int .i64 34] 3)) 3 [32, 33, 35, 36] 4 rfl (by simp [maxLen])) rfl (by first | rfl | go_simp) (by decide) (Nat.le_trans S0.out (grown_alloc (w.alloc (.cells #[.int .i64 31, .int .i64 34] 3)) (.cells #[.int .i64 32, .int .i64 33, .int .i64 35, .int .i64 36] 3) none).size) ?_; intro v1 w1 o1 g1; have hne := World.ownsRow.lt (World.ownsRow.alloc O0.out (.cells #[.int .i64 32, .int .i64 33, .int .i64 35, .int .i64 36] 3)); have G1 := Lib.hid (grown_own6' (grown_trans' G0.out (grown_alloc (w.alloc (.cells #[.int .i64 31, .int .i64 34] 3)) (.cells #[.int .i64 32, .int .i64 33, .int .i64 35, .int .i64 36] 3) none)) g1 hne); have O1 := Lib.hid (show w1.ownsRow w.heap.size 3 1 v1 6 (icells [31, 34, 32, 33, 35, 36]) from o1); have S1 := Lib.hid (Nat.le_trans (Nat.le_trans S0.out (grown_alloc (w.alloc (.cells #[.int .i64 31, .int .i64 34] 3)) (.cells #[.int .i64 32, .int .i64 33, .int .i64 35, .int .i64 36] 3) none).size) g1.size); have TK1 := Lib.hid True.intro; clear o1 g1 hne))
  go_ret
  exact ⟨_, rfl, by rw [HT.out]; exact OS.out, GS.out⟩
set_option maxRecDepth 10000 in
set_option maxHeartbeats 1000000 in
theorem tagsOf_2 (w : World) : Calls Tryd.prog 29 #[.int .i64 2] w fun e w' => Tagged w 2 e w' := by
  have O0 := Lib.hid (show (w.alloc (.cells #[.int .i64 31, .int .i64 34] 3)).ownsRow w.heap.size 3 1 (.slice (some ⟨w.heap.size, 0, none⟩) 2 2) 2 (icells [31, 34]) from ⟨rfl, .inr ⟨w.heap.size, 2, #[.int .i64 31, .int .i64 34], rfl, Nat.le_refl _, heap_alloc_new w _, Nat.le_refl _, by simp [maxLen], rfl, rfl⟩⟩)
  have G0 := Lib.hid (grown_alloc w (.cells #[.int .i64 31, .int .i64 34] 3) none)
  have S0 := Lib.hid G0.out.size
  have TK0 := Lib.hid True.intro
  have HMS := Lib.hid (show ([31, 34, 33, 35, 36, 37, 38] : List Int).mergeSort (fun x y => decide (x ≤ y)) = [31, 33, 34, 35, 36, 37, 38] by simp [List.mergeSort])
  have HT := Lib.hid (show tagsK 2 = [31, 33, 34, 35, 36, 37, 38] from rfl)
  go_enter Tryd.func29, Tryd.ntmps29
  go_wp2_with (first
    | (go_at_call 47; refine (sortI_any [31, 34, 33, 35, 36, 37, 38] [31, 33, 34, 35, 36, 37, 38] 7 w.heap.size _ _ rfl (by omega) (by omega) HMS.out O3.out).mono ?_; rintro e ws ⟨rfl, os, gs⟩; have OS := Lib.hid (IsI.of_own rfl os); have hne := World.ownsRow.lt O3.out; have GS := Lib.hid (grown_own6' G3.out gs hne); clear os gs hne)
    | (at_builtin; have hx := TK2; clear hx; refine wpList_appIs (l := [31, 34, 33, 35, 36, 37]) (news := [38]) Tryd.underlying75 intInfo rfl (.tmp 27) (.tmp 28) rfl (base := w.heap.size) (World.ownsRow.alloc O2.out (.cells #[.int .i64 38] 3)) (RI.fresh w2 3 [38] 1 rfl (by simp [maxLen])) rfl (by first | rfl | go_simp) (by decide) (Nat.le_trans S2.out (grown_alloc w2 (.cells #[.int .i64 38] 3) none).size) ?_; intro v3 w3 o3 g3; have hne := World.ownsRow.lt (World.ownsRow.alloc O2.out (.cells #[.int .i64 38] 3)); have G3 := Lib.hid (grown_own6' (grown_trans' G2.out (grown_alloc w2 (.cells #[.int .i64 38] 3) none)) g3 hne); have O3 := Lib.hid (show w3.ownsRow w.heap.size 3 1 v3 7 (icells [31, 34, 33, 35, 36, 37, 38]) from o3); have S3 := Lib.hid (Nat.le_trans (Nat.le_trans S2.out (grown_alloc w2 (.cells #[.int .i64 38] 3) none).size) g3.size); have TK3 := Lib.hid True.intro; clear o3 g3 hne)
    | (at_builtin; have hx := TK1; clear hx; refine wpList_appIs (l := [31, 34, 33, 35, 36]) (news := [37]) Tryd.underlying75 intInfo rfl (.tmp 24) (.tmp 25) rfl (base := w.heap.size) (World.ownsRow.alloc O1.out (.cells #[.int .i64 37] 3)) (RI.fresh w1 3 [37] 1 rfl (by simp [maxLen])) rfl (by first | rfl | go_simp) (by decide) (Nat.le_trans S1.out (grown_alloc w1 (.cells #[.int .i64 37] 3) none).size) ?_; intro v2 w2 o2 g2; have hne := World.ownsRow.lt (World.ownsRow.alloc O1.out (.cells #[.int .i64 37] 3)); have G2 := Lib.hid (grown_own6' (grown_trans' G1.out (grown_alloc w1 (.cells #[.int .i64 37] 3) none)) g2 hne); have O2 := Lib.hid (show w2.ownsRow w.heap.size 3 1 v2 6 (icells [31, 34, 33, 35, 36, 37]) from o2); have S2 := Lib.hid (Nat.le_trans (Nat.le_trans S1.out (grown_alloc w1 (.cells #[.int .i64 37] 3) none).size) g2.size); have TK2 := Lib.hid True.intro; clear o2 g2 hne)
    | (at_builtin; have hx := TK0; clear hx; refine wpList_appIs (l := [31, 34]) (news := [33, 35, 36]) Tryd.underlying75 intInfo rfl (.tmp 21) (.tmp 22) rfl (base := w.heap.size) (World.ownsRow.alloc O0.out (.cells #[.int .i64 33, .int .i64 35, .int .i64 36] 3)) (RI.fresh (w.alloc (.cells #[.int .i64 31, .int .i64 34] 3)) 3 [33, 35, 36] 3 rfl (by simp [maxLen])) rfl (by first | rfl | go_simp) (by decide) (Nat.le_trans S0.out (grown_alloc (w.alloc (.cells #[.int .i64 31, .int .i64 34] 3)) (.cells #[.int .i64 33, .int .i64 35, .int .i64 36] 3) none).size) ?_; intro v1 w1 o1 g1; have hne := World.ownsRow.lt (World.ownsRow.alloc O0.out (.cells #[.int .i64 33, .int .i64 35, .int .i64 36] 3)); have G1 := Lib.hid (grown_own6' (grown_trans' G0.out (grown_alloc (w.alloc (.cells #[.int .i64 31, .int .i64 34] 3)) (.cells #[.int .i64 33, .int .i64 35, .int .i64 36] 3) none)) g1 hne); have O1 := Lib.hid (show w1.ownsRow w.heap.size 3 1 v1 5 (icells [31, 34, 33, 35, 36]) from o1); have S1 := Lib.hid (Nat.le_trans (Nat.le_trans S0.out (grown_alloc (w.alloc (.cells #[.int .i64 31, .int .i64 34] 3)) (.cells #[.int .i64 33, .int .i64 35, .int .i64 36] 3) none).size) g1.size); have TK1 := Lib.hid True.intro; clear o1 g1 hne))
  go_ret
  exact ⟨_, rfl, by rw [HT.out]; exact OS.out, GS.out⟩
set_option maxRecDepth 10000 in
set_option maxHeartbeats 1000000 in
theorem tagsOf_3 (w : World) : Calls Tryd.prog 29 #[.int .i64 3] w fun e w' => Tagged w 3 e w' := by
  have O0 := Lib.hid (show (w.alloc (.cells #[.int .i64 31, .int .i64 34] 3)).ownsRow w.heap.size 3 1 (.slice (some ⟨w.heap.size, 0, none⟩) 2 2) 2 (icells [31, 34]) from ⟨rfl, .inr ⟨w.heap.size, 2, #[.int .i64 31, .int .i64 34], rfl, Nat.le_refl _, heap_alloc_new w _, Nat.le_refl _, by simp [maxLen], rfl, rfl⟩⟩)
  have G0 := Lib.hid (grown_alloc w (.cells #[.int .i64 31, .int .i64 34] 3) none)
  have S0 := Lib.hid G0.out.size
  have TK0 := Lib.hid True.intro
  have HMS := Lib.hid (show ([31, 34, 37, 38] : List Int).mergeSort (fun x y => decide (x ≤ y)) = [31, 34, 37, 38] by simp [List.mergeSort])
  have HT := Lib.hid (show tagsK 3 = [31, 34, 37, 38] from rfl)
  go_enter Tryd.func29, Tryd.ntmps29
  go_wp2_with (first
    | (go_at_call 47; refine (sortI_any [31, 34, 37, 38] [31, 34, 37, 38] 4 w.heap.size _ _ rfl (by omega) (by omega) HMS.out O2.out).mono ?_; rintro e ws ⟨rfl, os, gs⟩; have OS := Lib.hid (IsI.of_own rfl os); have hne := World.ownsRow.lt O2.out; have GS := Lib.hid (grown_own6' G2.out gs hne); clear os gs hne)
    | (at_builtin; have hx := TK1; clear hx; refine wpList_appIs (l := [31, 34, 37]) (news := [38]) Tryd.underlying75 intInfo rfl (.tmp 27) (.tmp 28) rfl (base := w.heap.size) (World.ownsRow.alloc O1.out (.cells #[.int .i64 38] 3)) (RI.fresh w1 3 [38] 1 rfl (by simp [maxLen])) rfl (by first | rfl | go_simp) (by decide) (Nat.le_trans S1.out (grown_alloc w1 (.cells #[.int .i64 38] 3) none).size) ?_; intro v2 w2 o2 g2; have hne := World.ownsRow.lt (World.ownsRow.alloc O1.out (.cells #[.int .i64 38] 3)); have G2 := Lib.hid (grown_own6' (grown_trans' G1.out (grown_alloc w1 (.cells #[.int .i64 38] 3) none)) g2 hne); have O2 := Lib.hid (show w2.ownsRow w.heap.size 3 1 v2 4 (icells [31, 34, 37, 38]) from o2); have S2 := Lib.hid (Nat.le_trans (Nat.le_trans S1.out (grown_alloc w1 (.cells #[.int .i64 38] 3) none).size) g2.size); have TK2 := Lib.hid True.intro; clear o2 g2 hne)
    | (at_builtin; have hx := TK0; clear hx; refine wpList_appIs (l := [31, 34]) (news := [37]) Tryd.underlying75 intInfo rfl (.tmp 24) (.tmp 25) rfl (base := w.heap.size) (World.ownsRow.alloc O0.out (.cells #[.int .i64 37] 3)) (RI.fresh (w.alloc (.cells #[.int .i64 31, .int .i64 34] 3)) 3 [37] 1 rfl (by simp [maxLen])) rfl (by first | rfl | go_simp) (by decide) (Nat.le_trans S0.out (grown_alloc (w.alloc (.cells #[.int .i64 31, .int .i64 34] 3)) (.cells #[.int .i64 37] 3) none).size) ?_; intro v1 w1 o1 g1; have hne := World.ownsRow.lt (World.ownsRow.alloc O0.out (.cells #[.int .i64 37] 3)); have G1 := Lib.hid (grown_own6' (grown_trans' G0.out (grown_alloc (w.alloc (.cells #[.int .i64 31, .int .i64 34] 3)) (.cells #[.int .i64 37] 3) none)) g1 hne); have O1 := Lib.hid (show w1.ownsRow w.heap.size 3 1 v1 3 (icells [31, 34, 37]) from o1); have S1 := Lib.hid (Nat.le_trans (Nat.le_trans S0.out (grown_alloc (w.alloc (.cells #[.int .i64 31, .int .i64 34] 3)) (.cells #[.int .i64 37] 3) none).size) g1.size); have TK1 := Lib.hid True.intro; clear o1 g1 hne))
  go_ret
  exact ⟨_, rfl, by rw [HT.out]; exact OS.out, GS.out⟩
set_option maxRecDepth 10000 in
set_option maxHeartbeats 1000000 in
theorem tagsOf_4 (w : World) : Calls Tryd.prog 29 #[.int .i64 4] w fun e w' => Tagged w 4 e w' := by
  have O0 := Lib.hid (show (w.alloc (.cells #[.int .i64 31, .int .i64 34] 3)).ownsRow w.heap.size 3 1 (.slice (some ⟨w.heap.size, 0, none⟩) 2 2) 2 (icells [31, 34]) from ⟨rfl, .inr ⟨w.heap.size, 2, #[.int .i64 31, .int .i64 34], rfl, Nat.le_refl _, heap_alloc_new w _, Nat.le_refl _, by simp [maxLen], rfl, rfl⟩⟩)
  have G0 := Lib.hid (grown_alloc w (.cells #[.int .i64 31, .int .i64 34] 3) none)
  have S0 := Lib.hid G0.out.size
  have TK0 := Lib.hid True.intro
  have HMS := Lib.hid (show ([31, 34, 37, 38] : List Int).mergeSort (fun x y => decide (x ≤ y)) = [31, 34, 37, 38] by simp [List.mergeSort])
  have HT := Lib.hid (show tagsK 4 = [31, 34, 37, 38] from rfl)
  go_enter Tryd.func29, Tryd.ntmps29
  go_wp2_with (first
    | (go_at_call 47; refine (sortI_any [31, 34, 37, 38] [31, 34, 37, 38] 4 w.heap.size _ _ rfl (by omega) (by omega) HMS.out O2.out).mono ?_; rintro e ws ⟨rfl, os, gs⟩; have OS := Lib.hid (IsI.of_own rfl os); have hne := World.ownsRow.lt O2.out; have GS := Lib.hid (grown_own6' G2.out gs hne); clear os gs hne)
    | (at_builtin; have hx := TK1; clear hx; refine wpList_appIs (l := [31, 34, 37]) (news := [38]) Tryd.underlying75 intInfo rfl (.tmp 27) (.tmp 28) rfl (base := w.heap.size) (World.ownsRow.alloc O1.out (.cells #[.int .i64 38] 3)) (RI.fresh w1 3 [38] 1 rfl (by simp [maxLen])) rfl (by first | rfl | go_simp) (by decide) (Nat.le_trans S1.out (grown_alloc w1 (.cells #[.int .i64 38] 3) none).size) ?_; intro v2 w2 o2 g2; have hne := World.ownsRow.lt (World.ownsRow.alloc O1.out (.cells #[.int .i64 38] 3)); have G2 := Lib.hid (grown_own6' (grown_trans' G1.out (grown_alloc w1 (.cells #[.int .i64 38] 3) none)) g2 hne); have O2 := Lib.hid (show w2.ownsRow w.heap.size 3 1 v2 4 (icells [31, 34, 37, 38]) from o2); have S2 := Lib.hid (Nat.le_trans (Nat.le_trans S1.out (grown_alloc w1 (.cells #[.int .i64 38] 3) none).size) g2.size); have TK2 := Lib.hid True.intro; clear o2 g2 hne)
    | (at_builtin; have hx := TK0; clear hx; refine wpList_appIs (l := [31, 34]) (news := [37]) Tryd.underlying75 intInfo rfl (.tmp 24) (.tmp 25) rfl (base := w.heap.size) (World.ownsRow.alloc O0.out (.cells #[.int .i64 37] 3)) (RI.fresh (w.alloc (.cells #[.int .i64 31, .int .i64 34] 3)) 3 [37] 1 rfl (by simp [maxLen])) rfl (by first | rfl | go_simp) (by decide) (Nat.le_trans S0.out (grown_alloc (w.alloc (.cells #[.int .i64 31, .int .i64 34] 3)) (.cells #[.int .i64 37] 3) none).size) ?_; intro v1 w1 o1 g1; have hne := World.ownsRow.lt (World.ownsRow.alloc O0.out (.cells #[.int .i64 37] 3)); have G1 := Lib.hid (grown_own6' (grown_trans' G0.out (grown_alloc (w.alloc (.cells #[.int .i64 31, .int .i64 34] 3)) (.cells #[.int .i64 37] 3) none)) g1 hne); have O1 := Lib.hid (show w1.ownsRow w.heap.size 3 1 v1 3 (icells [31, 34, 37]) from o1); have S1 := Lib.hid (Nat.le_trans (Nat.le_trans S0.out (grown_alloc (w.alloc (.cells #[.int .i64 31, .int .i64 34] 3)) (.cells #[.int .i64 37] 3) none).size) g1.size); have TK1 := Lib.hid True.intro; clear o1 g1 hne))
  go_ret
  exact ⟨_, rfl, by rw [HT.out]; exact OS.out, GS.out⟩
set_option maxRecDepth 10000 in
set_option maxHeartbeats 1000000 in
theorem tagsOf_5 (w : World) : Calls Tryd.prog 29 #[.int .i64 5] w fun e w' => Tagged w 5 e w' := by
  have O0 := Lib.hid (show (w.alloc (.cells #[.int .i64 31, .int .i64 34] 3)).ownsRow w.heap.size 3 1 (.slice (some ⟨w.heap.size, 0, none⟩) 2 2) 2 (icells [31, 34]) from ⟨rfl, .inr ⟨w.heap.size, 2, #[.int .i64 31, .int .i64 34], rfl, Nat.le_refl _, heap_alloc_new w _, Nat.le_refl _, by simp [maxLen], rfl, rfl⟩⟩)
  have G0 := Lib.hid (grown_alloc w (.cells #[.int .i64 31, .int .i64 34] 3) none)
  have S0 := Lib.hid G0.out.size
  have TK0 := Lib.hid True.intro
  have HMS := Lib.hid (show ([31, 34, 38] : List Int).mergeSort (fun x y => decide (x ≤ y)) = [31, 34, 38] by simp [List.mergeSort])
  have HT := Lib.hid (show tagsK 5 = [31, 34, 38] from rfl)
  go_enter Tryd.func29, Tryd.ntmps29
  go_wp2_with (first
    | (go_at_call 47; refine (sortI_any [31, 34, 38] [31, 34, 38] 3 w.heap.size _ _ rfl (by omega) (by omega) HMS.out O1.out).mono ?_; rintro e ws ⟨rfl, os, gs⟩; have OS := Lib.hid (IsI.of_own rfl os); have hne := World.ownsRow.lt O1.out; have GS := Lib.hid (grown_own6' G1.out gs hne); clear os gs hne)
    | (at_builtin; have hx := TK0; clear hx; refine wpList_appIs (l := [31, 34]) (news := [38]) Tryd.underlying75 intInfo rfl (.tmp 27) (.tmp 28) rfl (base := w.heap.size) (World.ownsRow.alloc O0.out (.cells #[.int .i64 38] 3)) (RI.fresh (w.alloc (.cells #[.int .i64 31, .int .i64 34] 3)) 3 [38] 1 rfl (by simp [maxLen])) rfl (by first | rfl | go_simp) (by decide) (Nat.le_trans S0.out (grown_alloc (w.alloc (.cells #[.int .i64 31, .int .i64 34] 3)) (.cells #[.int .i64 38] 3) none).size) ?_; intro v1 w1 o1 g1; have hne := World.ownsRow.lt (World.ownsRow.alloc O0.out (.cells #[.int .i64 38] 3)); have G1 := Lib.hid (grown_own6' (grown_trans' G0.out (grown_alloc (w.alloc (.cells #[.int .i64 31, .int .i64 34] 3)) (.cells #[.int .i64 38] 3) none)) g1 hne); have O1 := Lib.hid (show w1.ownsRow w.heap.size 3 1 v1 3 (icells [31, 34, 38]) from o1); have S1 := Lib.hid (Nat.le_trans (Nat.le_trans S0.out (grown_alloc (w.alloc (.cells #[.int .i64 31, .int .i64 34] 3)) (.cells #[.int .i64 38] 3) none).size) g1.size); have TK1 := Lib.hid True.intro; clear o1 g1 hne))
  go_ret
  exact ⟨_, rfl, by rw [HT.out]; exact OS.out, GS.out⟩
set_option maxRecDepth 10000 in
set_option maxHeartbeats 1000000 in
theorem tagsOf_6 (w : World) : Calls Tryd.prog 29 #[.int .i64 6] w fun e w' => Tagged w 6 e w' := by
  have O0 := Lib.hid (show (w.alloc (.cells #[.int .i64 31, .int .i64 34] 3)).ownsRow w.heap.size 3 1 (.slice (some ⟨w.heap.size, 0, none⟩) 2 2) 2 (icells [31, 34]) from ⟨rfl, .inr ⟨w.heap.size, 2, #[.int .i64 31, .int .i64 34], rfl, Nat.le_refl _, heap_alloc_new w _, Nat.le_refl _, by simp [maxLen], rfl, rfl⟩⟩)
  have G0 := Lib.hid (grown_alloc w (.cells #[.int .i64 31, .int .i64 34] 3) none)
  have S0 := Lib.hid G0.out.size
  have TK0 := Lib.hid True.intro
  have HMS := Lib.hid (show ([31, 34, 38] : List Int).mergeSort (fun x y => decide (x ≤ y)) = [31, 34, 38] by simp [List.mergeSort])
  have HT := Lib.hid (show tagsK 6 = [31, 34, 38] from rfl)
  go_enter Tryd.func29, Tryd.ntmps29
  go_wp2_with (first
    | (go_at_call 47; refine (sortI_any [31, 34, 38] [31, 34, 38] 3 w.heap.size _ _ rfl (by omega) (by omega) HMS.out O1.out).mono ?_; rintro e ws ⟨rfl, os, gs⟩; have OS := Lib.hid (IsI.of_own rfl os); have hne := World.ownsRow.lt O1.out; have GS := Lib.hid (grown_own6' G1.out gs hne); clear os gs hne)
    | (at_builtin; have hx := TK0; clear hx; refine wpList_appIs (l := [31, 34]) (news := [38]) Tryd.underlying75 intInfo rfl (.tmp 27) (.tmp 28) rfl (base := w.heap.size) (World.ownsRow.alloc O0.out (.cells #[.int .i64 38] 3)) (RI.fresh (w.alloc (.cells #[.int .i64 31, .int .i64 34] 3)) 3 [38] 1 rfl (by simp [maxLen])) rfl (by first | rfl | go_simp) (by decide) (Nat.le_trans S0.out (grown_alloc (w.alloc (.cells #[.int .i64 31, .int .i64 34] 3)) (.cells #[.int .i64 38] 3) none).size) ?_; intro v1 w1 o1 g1; have hne := World.ownsRow.lt (World.ownsRow.alloc O0.out (.cells #[.int .i64 38] 3)); have G1 := Lib.hid (grown_own6' (grown_trans' G0.out (grown_alloc (w.alloc (.cells #[.int .i64 31, .int .i64 34] 3)) (.cells #[.int .i64 38] 3) none)) g1 hne); have O1 := Lib.hid (show w1.ownsRow w.heap.size 3 1 v1 3 (icells [31, 34, 38]) from o1); have S1 := Lib.hid (Nat.le_trans (Nat.le_trans S0.out (grown_alloc (w.alloc (.cells #[.int .i64 31, .int .i64 34] 3)) (.cells #[.int .i64 38] 3) none).size) g1.size); have TK1 := Lib.hid True.intro; clear o1 g1 hne))
  go_ret
  exact ⟨_, rfl, by rw [HT.out]; exact OS.out, GS.out⟩
set_option maxRecDepth 10000 in
set_option maxHeartbeats 1000000 in
theorem tagsOf_7 (w : World) : Calls Tryd.prog 29 #[.int .i64 7] w fun e w' => Tagged w 7 e w' := by
  have O0 := Lib.hid (show (w.alloc (.cells #[.int .i64 31, .int .i64 34] 3)).ownsRow w.heap.size 3 1 (.slice (some ⟨w.heap.size, 0, none⟩) 2 2) 2 (icells [31, 34]) from ⟨rfl, .inr ⟨w.heap.size, 2, #[.int .i64 31, .int .i64 34], rfl, Nat.le_refl _, heap_alloc_new w _, Nat.le_refl _, by simp [maxLen], rfl, rfl⟩⟩)
  have G0 := Lib.hid (grown_alloc w (.cells #[.int .i64 31, .int .i64 34] 3) none)
  have S0 := Lib.hid G0.out.size
  have TK0 := Lib.hid True.intro
  have HMS := Lib.hid (show ([31, 34, 39] : List Int).mergeSort (fun x y => decide (x ≤ y)) = [31, 34, 39] by simp [List.mergeSort])
  have HT := Lib.hid (show tagsK 7 = [31, 34, 39] from rfl)
  go_enter Tryd.func29, Tryd.ntmps29
  go_wp2_with (first
    | (go_at_call 47; refine (sortI_any [31, 34, 39] [31, 34, 39] 3 w.heap.size _ _ rfl (by omega) (by omega) HMS.out O1.out).mono ?_; rintro e ws ⟨rfl, os, gs⟩; have OS := Lib.hid (IsI.of_own rfl os); have hne := World.ownsRow.lt O1.out; have GS := Lib.hid (grown_own6' G1.out gs hne); clear os gs hne)
    | (at_builtin; have hx := TK0; clear hx; refine wpList_appIs (l := [31, 34]) (news := [39]) Tryd.underlying75 intInfo rfl (.tmp 30) (.tmp 31) rfl (base := w.heap.size) (World.ownsRow.alloc O0.out (.cells #[.int .i64 39] 3)) (RI.fresh (w.alloc (.cells #[.int .i64 31, .int .i64 34] 3)) 3 [39] 1 rfl (by simp [maxLen])) rfl (by first | rfl | go_simp) (by decide) (Nat.le_trans S0.out (grown_alloc (w.alloc (.cells #[.int .i64 31, .int .i64 34] 3)) (.cells #[.int .i64 39] 3) none).size) ?_; intro v1 w1 o1 g1; have hne := World.ownsRow.lt (World.ownsRow.alloc O0.out (.cells #[.int .i64 39] 3)); have G1 := Lib.hid (grown_own6' (grown_trans' G0.out (grown_alloc (w.alloc (.cells #[.int .i64 31, .int .i64 34] 3)) (.cells #[.int .i64 39] 3) none)) g1 hne); have O1 := Lib.hid (show w1.ownsRow w.heap.size 3 1 v1 3 (icells [31, 34, 39]) from o1); have S1 := Lib.hid (Nat.le_trans (Nat.le_trans S0.out (grown_alloc (w.alloc (.cells #[.int .i64 31, .int .i64 34] 3)) (.cells #[.int .i64 39] 3) none).size) g1.size); have TK1 := Lib.hid True.intro; clear o1 g1 hne))
  go_ret
  exact ⟨_, rfl, by rw [HT.out]; exact OS.out, GS.out⟩
theorem tagsOf_any (k : Int) (w : World) : Calls Tryd.prog 29 #[.int .i64 k] w fun e w' => Tagged w k e w' := by
  by_cases h1 : k = 1
  · subst h1; exact tagsOf_1 w
  by_cases h2 : k = 2
  · subst h2; exact tagsOf_2 w
  by_cases h3 : k = 3
  · subst h3; exact tagsOf_3 w
  by_cases h4 : k = 4
  · subst h4; exact tagsOf_4 w
  by_cases h5 : k = 5
  · subst h5; exact tagsOf_5 w
  by_cases h6 : k = 6
  · subst h6; exact tagsOf_6 w
  by_cases h7 : k = 7
  · subst h7; exact tagsOf_7 w
  have HT := Lib.hid (show tagsK k = [] by unfold tagsK; rw [if_neg h1, if_neg h2, if_neg h3, if_neg h4, if_neg h5, if_neg h6, if_neg h7])
  have e1 : (k == 1) = false := by simpa using h1
  have e2 : (k == 2) = false := by simpa using h2
  have e3 : (k == 3) = false := by simpa using h3
  have e4 : (k == 4) = false := by simpa using h4
  have e5 : (k == 5) = false := by simpa using h5
  have e6 : (k == 6) = false := by simpa using h6
  have e7 : (k == 7) = false := by simpa using h7
  clear h1 h2 h3 h4 h5 h6 h7
  go_enter Tryd.func29, Tryd.ntmps29
  go_wp2
  go_ret
  exact ⟨_, rfl, by rw [HT.out]; exact ⟨none, 0, rfl, RI.nil_ _ _⟩, grown_alloc _ _ _⟩
end Go.Proofs.YtnfmbgmncdodkaaDoor
namespace Go.Proofs.YtnfmbgmncdodkaaDoor
open Go.RowKit
set_option linter.unusedVariables false

theorem RB.keptB {w w' : World} {A : Option Addr} {l : List UInt8} {cap : Nat} (h : RB w w.heap.size A l cap) (hg : w.grownBy w' none) : RB w' w'.heap.size A l cap := (h.kept hg (Nat.le_refl _)).more hg.size
/-- What valueOf answers: bytes that lie ahead of B, or that are new. -/
def Valued (w : World) (B : Nat) (l : List UInt8) (e : Ending) (w' : World) : Prop :=
  ∃ A c, e = .returned (.slice A l.length c) ∧ RB w' w'.heap.size A l c ∧ (∀ a, A = some a → l = [] ∨ a.block < B ∨ w.heap.size ≤ a.block) ∧ w.grownBy w' none
theorem RB.ahead {w : World} {B : Nat} {A : Option Addr} {l : List UInt8} {c : Nat} (h : RB w B A l c) : ∀ a, A = some a → l = [] ∨ a.block < B := by
  intro a ha
  rcases h.2.2 with ⟨h1, _⟩ | ⟨a', h1, h2⟩
  · rw [h1] at ha; cases ha
  · rw [h1] at ha
    injection ha with ha
    subst ha
    cases l with
    | nil => exact .inl rfl
    | cons u l => have h3 := (h2 0 u rfl).1; exact .inr (by simpa [Addr.add] using h3)
theorem OwnG.shapeA {w : World} {base : Nat} {e : TypeId} {v : Value} {l : List UInt8} (h : OwnG w base e v l) : ∃ A cap, v = .slice A l.length cap ∧ RB w w.heap.size A l cap ∧ (∀ a, A = some a → base ≤ a.block) := by
  have hs := h.shape
  rcases h with ⟨rfl, rfl⟩ | ⟨g, cap, cur, fz, rfl, hb, hg, hc, hm, hcs, ht, -⟩
  · exact ⟨none, 0, rfl, RB.nil_ _ _, fun a ha => by cases ha⟩
  · obtain ⟨A, c, hv, hr, _⟩ := hs
    injection hv with h1 h2 h3
    subst h1 h3
    exact ⟨_, _, rfl, hr, fun a ha => by injection ha with ha; subst ha; exact hb⟩
theorem aggKm : AggT Tryd.prog 26 9 := ⟨fun w => by kernel_rfl, by kernel_rfl⟩
set_option maxRecDepth 10000 in
set_option maxHeartbeats 1000000 in
theorem valueOf_31 (m : Msg) (T : Option Addr) (tc : Nat) (S : Option Addr) (sc B : Nat) (w : World) (h : KM w B m T tc S sc) (hB : B ≤ w.heap.size) (hno : m.no < 18446744073709551616) (hc : m.c.size ≤ 70368744177664) (hs : m.s.size ≤ 70368744177664) :
    Calls Tryd.prog 30 #[.agg (kcells m T tc S sc).toArray, .int .i64 31] w fun e w' => Valued w B (valK m 31) e w' := by
  have HV := Lib.hid (show valK m 31 = numB (u64n m.kd) from rfl)
  have q := (CB.new w 26 (kcells m T tc S sc)).at_ (i := 0) rfl
  have G0 := Lib.hid (grown_alloc w (.cells (kcells m T tc S sc).toArray 26) none)
  rw [HV.out]
  have hw := u64n_wrap m.kd
  have HL := Lib.hid (u64n_lt m.kd)
  obtain ⟨n, hn⟩ : ∃ n, u64n m.kd = n := ⟨_, rfl⟩
  rw [hn] at hw HL ⊢
  obtain ⟨L, hL⟩ : ∃ L, numB n = L := ⟨_, rfl⟩
  have HLL := Lib.hid hL
  rw [hL]
  obtain ⟨X, hX⟩ : ∃ X, kcells m T tc S sc = X := ⟨_, rfl⟩
  rw [hX] at q G0 ⊢
  clear hX h hB hc hs hno hL HV hn
  go_enter Tryd.func30, Tryd.ntmps30
  go_wp2_with (go_at_call 48; refine (num_any n _ HL.out).mono ?_; rw [HLL.out]; rintro e w1 ⟨v, rfl, o, b⟩; obtain ⟨A, c, rfl, r, hb⟩ := o.shape; have R1 := Lib.hid r; have HBB := Lib.hid hb; have GN := Lib.hid (none_of_below b (Nat.le_refl _)); clear o b r hb)
  go_ret
  exact ⟨A, c, rfl, R1.out, fun a ha => .inr (.inr (Nat.le_trans G0.out.size (HBB.out a ha))), grown_trans' G0.out GN.out⟩
set_option maxRecDepth 10000 in
set_option maxHeartbeats 1000000 in
theorem valueOf_32 (m : Msg) (T : Option Addr) (tc : Nat) (S : Option Addr) (sc B : Nat) (w : World) (h : KM w B m T tc S sc) (hB : B ≤ w.heap.size) (hno : m.no < 18446744073709551616) (hc : m.c.size ≤ 70368744177664) (hs : m.s.size ≤ 70368744177664) :
    Calls Tryd.prog 30 #[.agg (kcells m T tc S sc).toArray, .int .i64 32] w fun e w' => Valued w B (valK m 32) e w' := by
  have HV := Lib.hid (show valK m 32 = m.c.data.toList from rfl)
  have q := (CB.new w 26 (kcells m T tc S sc)).at_ (i := 1) rfl
  have G0 := Lib.hid (grown_alloc w (.cells (kcells m T tc S sc).toArray 26) none)
  rw [HV.out]
  obtain ⟨b, hb⟩ : ∃ b, m.c = b := ⟨_, rfl⟩
  rw [hb] at hc ⊢
  have q := q.trans (congrArg (fun k => some (Value.string k)) hb)
  have HS := Lib.hid hc
  obtain ⟨X, hX⟩ : ∃ X, kcells m T tc S sc = X := ⟨_, rfl⟩
  rw [hX] at q G0 ⊢
  clear hX h hB hc hs hno hb HV
  go_enter Tryd.func30, Tryd.ntmps30
  go_wp2_with (refine wpList_convG byteT Tryd.underlying9 rfl (.tmp 15) rfl b HS.out rfl ?_; intro v w1 o g hb; obtain ⟨A, c, rfl, r, hbb⟩ := o.shapeA; have R1 := Lib.hid r; have HBB := Lib.hid hbb; have GN := Lib.hid g; clear o g hb r hbb)
  go_ret
  exact ⟨A, c, rfl, R1.out, fun a ha => .inr (.inr (Nat.le_trans G0.out.size (HBB.out a ha))), grown_trans' G0.out GN.out⟩
set_option maxRecDepth 10000 in
set_option maxHeartbeats 1000000 in
theorem valueOf_33 (m : Msg) (T : Option Addr) (tc : Nat) (S : Option Addr) (sc B : Nat) (w : World) (h : KM w B m T tc S sc) (hB : B ≤ w.heap.size) (hno : m.no < 18446744073709551616) (hc : m.c.size ≤ 70368744177664) (hs : m.s.size ≤ 70368744177664) :
    Calls Tryd.prog 30 #[.agg (kcells m T tc S sc).toArray, .int .i64 33] w fun e w' => Valued w B (valK m 33) e w' := by
  have HV := Lib.hid (show valK m 33 = m.s.data.toList from rfl)
  have q := (CB.new w 26 (kcells m T tc S sc)).at_ (i := 2) rfl
  have G0 := Lib.hid (grown_alloc w (.cells (kcells m T tc S sc).toArray 26) none)
  rw [HV.out]
  obtain ⟨b, hb⟩ : ∃ b, m.s = b := ⟨_, rfl⟩
  rw [hb] at hs ⊢
  have q := q.trans (congrArg (fun k => some (Value.string k)) hb)
  have HS := Lib.hid hs
  obtain ⟨X, hX⟩ : ∃ X, kcells m T tc S sc = X := ⟨_, rfl⟩
  rw [hX] at q G0 ⊢
  clear hX h hB hc hs hno hb HV
  go_enter Tryd.func30, Tryd.ntmps30
  go_wp2_with (refine wpList_convG byteT Tryd.underlying9 rfl (.tmp 20) rfl b HS.out rfl ?_; intro v w1 o g hb; obtain ⟨A, c, rfl, r, hbb⟩ := o.shapeA; have R1 := Lib.hid r; have HBB := Lib.hid hbb; have GN := Lib.hid g; clear o g hb r hbb)
  go_ret
  exact ⟨A, c, rfl, R1.out, fun a ha => .inr (.inr (Nat.le_trans G0.out.size (HBB.out a ha))), grown_trans' G0.out GN.out⟩
set_option maxRecDepth 10000 in
set_option maxHeartbeats 1000000 in
theorem valueOf_34 (m : Msg) (T : Option Addr) (tc : Nat) (S : Option Addr) (sc B : Nat) (w : World) (h : KM w B m T tc S sc) (hB : B ≤ w.heap.size) (hno : m.no < 18446744073709551616) (hc : m.c.size ≤ 70368744177664) (hs : m.s.size ≤ 70368744177664) :
    Calls Tryd.prog 30 #[.agg (kcells m T tc S sc).toArray, .int .i64 34] w fun e w' => Valued w B (valK m 34) e w' := by
  have HV := Lib.hid (show valK m 34 = numB m.no from rfl)
  have q := (CB.new w 26 (kcells m T tc S sc)).at_ (i := 3) rfl
  have G0 := Lib.hid (grown_alloc w (.cells (kcells m T tc S sc).toArray 26) none)
  rw [HV.out]
  obtain ⟨n, hn⟩ : ∃ n, m.no = n := ⟨_, rfl⟩
  rw [hn] at hno ⊢
  have HL := Lib.hid hno
  have q := q.trans (congrArg (fun k : Nat => some (Value.int .u64 (k : Int))) hn)
  obtain ⟨L, hL⟩ : ∃ L, numB n = L := ⟨_, rfl⟩
  have HLL := Lib.hid hL
  rw [hL]
  obtain ⟨X, hX⟩ : ∃ X, kcells m T tc S sc = X := ⟨_, rfl⟩
  rw [hX] at q G0 ⊢
  clear hX h hB hc hs hno hL HV hn
  go_enter Tryd.func30, Tryd.ntmps30
  go_wp2_with (go_at_call 48; refine (num_any n _ HL.out).mono ?_; rw [HLL.out]; rintro e w1 ⟨v, rfl, o, b⟩; obtain ⟨A, c, rfl, r, hb⟩ := o.shape; have R1 := Lib.hid r; have HBB := Lib.hid hb; have GN := Lib.hid (none_of_below b (Nat.le_refl _)); clear o b r hb)
  go_ret
  exact ⟨A, c, rfl, R1.out, fun a ha => .inr (.inr (Nat.le_trans G0.out.size (HBB.out a ha))), grown_trans' G0.out GN.out⟩
set_option maxRecDepth 10000 in
set_option maxHeartbeats 1000000 in
theorem valueOf_35 (m : Msg) (T : Option Addr) (tc : Nat) (S : Option Addr) (sc B : Nat) (w : World) (h : KM w B m T tc S sc) (hB : B ≤ w.heap.size) (hno : m.no < 18446744073709551616) (hc : m.c.size ≤ 70368744177664) (hs : m.s.size ≤ 70368744177664) :
    Calls Tryd.prog 30 #[.agg (kcells m T tc S sc).toArray, .int .i64 35] w fun e w' => Valued w B (valK m 35) e w' := by
  have HV := Lib.hid (show valK m 35 = numB (u64n m.en) from rfl)
  have q := (CB.new w 26 (kcells m T tc S sc)).at_ (i := 4) rfl
  have G0 := Lib.hid (grown_alloc w (.cells (kcells m T tc S sc).toArray 26) none)
  rw [HV.out]
  have hw := u64n_wrap m.en
  have HL := Lib.hid (u64n_lt m.en)
  obtain ⟨n, hn⟩ : ∃ n, u64n m.en = n := ⟨_, rfl⟩
  rw [hn] at hw HL ⊢
  obtain ⟨L, hL⟩ : ∃ L, numB n = L := ⟨_, rfl⟩
  have HLL := Lib.hid hL
  rw [hL]
  obtain ⟨X, hX⟩ : ∃ X, kcells m T tc S sc = X := ⟨_, rfl⟩
  rw [hX] at q G0 ⊢
  clear hX h hB hc hs hno hL HV hn
  go_enter Tryd.func30, Tryd.ntmps30
  go_wp2_with (go_at_call 48; refine (num_any n _ HL.out).mono ?_; rw [HLL.out]; rintro e w1 ⟨v, rfl, o, b⟩; obtain ⟨A, c, rfl, r, hb⟩ := o.shape; have R1 := Lib.hid r; have HBB := Lib.hid hb; have GN := Lib.hid (none_of_below b (Nat.le_refl _)); clear o b r hb)
  go_ret
  exact ⟨A, c, rfl, R1.out, fun a ha => .inr (.inr (Nat.le_trans G0.out.size (HBB.out a ha))), grown_trans' G0.out GN.out⟩
set_option maxRecDepth 10000 in
set_option maxHeartbeats 1000000 in
theorem valueOf_36 (m : Msg) (T : Option Addr) (tc : Nat) (S : Option Addr) (sc B : Nat) (w : World) (h : KM w B m T tc S sc) (hB : B ≤ w.heap.size) (hno : m.no < 18446744073709551616) (hc : m.c.size ≤ 70368744177664) (hs : m.s.size ≤ 70368744177664) :
    Calls Tryd.prog 30 #[.agg (kcells m T tc S sc).toArray, .int .i64 36] w fun e w' => Valued w B (valK m 36) e w' := by
  have HV := Lib.hid (show valK m 36 = numB (u64n m.fl) from rfl)
  have q := (CB.new w 26 (kcells m T tc S sc)).at_ (i := 5) rfl
  have G0 := Lib.hid (grown_alloc w (.cells (kcells m T tc S sc).toArray 26) none)
  rw [HV.out]
  have hw := u64n_wrap m.fl
  have HL := Lib.hid (u64n_lt m.fl)
  obtain ⟨n, hn⟩ : ∃ n, u64n m.fl = n := ⟨_, rfl⟩
  rw [hn] at hw HL ⊢
  obtain ⟨L, hL⟩ : ∃ L, numB n = L := ⟨_, rfl⟩
  have HLL := Lib.hid hL
  rw [hL]
  obtain ⟨X, hX⟩ : ∃ X, kcells m T tc S sc = X := ⟨_, rfl⟩
  rw [hX] at q G0 ⊢
  clear hX h hB hc hs hno hL HV hn
  go_enter Tryd.func30, Tryd.ntmps30
  go_wp2_with (go_at_call 48; refine (num_any n _ HL.out).mono ?_; rw [HLL.out]; rintro e w1 ⟨v, rfl, o, b⟩; obtain ⟨A, c, rfl, r, hb⟩ := o.shape; have R1 := Lib.hid r; have HBB := Lib.hid hb; have GN := Lib.hid (none_of_below b (Nat.le_refl _)); clear o b r hb)
  go_ret
  exact ⟨A, c, rfl, R1.out, fun a ha => .inr (.inr (Nat.le_trans G0.out.size (HBB.out a ha))), grown_trans' G0.out GN.out⟩
set_option maxRecDepth 10000 in
set_option maxHeartbeats 1000000 in
theorem valueOf_37 (m : Msg) (T : Option Addr) (tc : Nat) (S : Option Addr) (sc B : Nat) (w : World) (h : KM w B m T tc S sc) (hB : B ≤ w.heap.size) (hno : m.no < 18446744073709551616) (hc : m.c.size ≤ 70368744177664) (hs : m.s.size ≤ 70368744177664) :
    Calls Tryd.prog 30 #[.agg (kcells m T tc S sc).toArray, .int .i64 37] w fun e w' => Valued w B (valK m 37) e w' := by
  have HV := Lib.hid (show valK m 37 = m.t from rfl)
  have q := (CB.new w 26 (kcells m T tc S sc)).at_ (i := 6) rfl
  have G0 := Lib.hid (grown_alloc w (.cells (kcells m T tc S sc).toArray 26) none)
  rw [HV.out]
  have R0 := Lib.hid h.1
  have HB := Lib.hid hB
  obtain ⟨X, hX⟩ : ∃ X, kcells m T tc S sc = X := ⟨_, rfl⟩
  rw [hX] at q G0 ⊢
  clear hX h hB hc hs hno HV
  go_enter Tryd.func30, Tryd.ntmps30
  go_wp2
  go_ret
  exact ⟨T, tc, rfl, (R0.out.kept G0.out HB.out).more (Nat.le_trans HB.out G0.out.size), fun a ha => (R0.out.ahead a ha).imp id .inl, G0.out⟩
set_option maxRecDepth 10000 in
set_option maxHeartbeats 1000000 in
theorem valueOf_38 (m : Msg) (T : Option Addr) (tc : Nat) (S : Option Addr) (sc B : Nat) (w : World) (h : KM w B m T tc S sc) (hB : B ≤ w.heap.size) (hno : m.no < 18446744073709551616) (hc : m.c.size ≤ 70368744177664) (hs : m.s.size ≤ 70368744177664) :
    Calls Tryd.prog 30 #[.agg (kcells m T tc S sc).toArray, .int .i64 38] w fun e w' => Valued w B (valK m 38) e w' := by
  have HV := Lib.hid (show valK m 38 = m.sl from rfl)
  have q := (CB.new w 26 (kcells m T tc S sc)).at_ (i := 7) rfl
  have G0 := Lib.hid (grown_alloc w (.cells (kcells m T tc S sc).toArray 26) none)
  rw [HV.out]
  have R0 := Lib.hid h.2
  have HB := Lib.hid hB
  obtain ⟨X, hX⟩ : ∃ X, kcells m T tc S sc = X := ⟨_, rfl⟩
  rw [hX] at q G0 ⊢
  clear hX h hB hc hs hno HV
  go_enter Tryd.func30, Tryd.ntmps30
  go_wp2
  go_ret
  exact ⟨S, sc, rfl, (R0.out.kept G0.out HB.out).more (Nat.le_trans HB.out G0.out.size), fun a ha => (R0.out.ahead a ha).imp id .inl, G0.out⟩
set_option maxRecDepth 10000 in
set_option maxHeartbeats 1000000 in
theorem valueOf_39 (m : Msg) (T : Option Addr) (tc : Nat) (S : Option Addr) (sc B : Nat) (w : World) (h : KM w B m T tc S sc) (hB : B ≤ w.heap.size) (hno : m.no < 18446744073709551616) (hc : m.c.size ≤ 70368744177664) (hs : m.s.size ≤ 70368744177664) :
    Calls Tryd.prog 30 #[.agg (kcells m T tc S sc).toArray, .int .i64 39] w fun e w' => Valued w B (valK m 39) e w' := by
  have HV := Lib.hid (show valK m 39 = numB (u64n m.co) from rfl)
  have q := (CB.new w 26 (kcells m T tc S sc)).at_ (i := 8) rfl
  have G0 := Lib.hid (grown_alloc w (.cells (kcells m T tc S sc).toArray 26) none)
  rw [HV.out]
  have hw := u64n_wrap m.co
  have HL := Lib.hid (u64n_lt m.co)
  obtain ⟨n, hn⟩ : ∃ n, u64n m.co = n := ⟨_, rfl⟩
  rw [hn] at hw HL ⊢
  obtain ⟨L, hL⟩ : ∃ L, numB n = L := ⟨_, rfl⟩
  have HLL := Lib.hid hL
  rw [hL]
  obtain ⟨X, hX⟩ : ∃ X, kcells m T tc S sc = X := ⟨_, rfl⟩
  rw [hX] at q G0 ⊢
  clear hX h hB hc hs hno hL HV hn
  go_enter Tryd.func30, Tryd.ntmps30
  go_wp2_with (go_at_call 48; refine (num_any n _ HL.out).mono ?_; rw [HLL.out]; rintro e w1 ⟨v, rfl, o, b⟩; obtain ⟨A, c, rfl, r, hb⟩ := o.shape; have R1 := Lib.hid r; have HBB := Lib.hid hb; have GN := Lib.hid (none_of_below b (Nat.le_refl _)); clear o b r hb)
  go_ret
  exact ⟨A, c, rfl, R1.out, fun a ha => .inr (.inr (Nat.le_trans G0.out.size (HBB.out a ha))), grown_trans' G0.out GN.out⟩
theorem valueOf_any (tag : Int) (h1 : 31 ≤ tag) (h2 : tag ≤ 39) (m : Msg) (T : Option Addr) (tc : Nat) (S : Option Addr) (sc B : Nat) (w : World) (h : KM w B m T tc S sc) (hB : B ≤ w.heap.size) (hno : m.no < 18446744073709551616) (hc : m.c.size ≤ 70368744177664) (hs : m.s.size ≤ 70368744177664) :
    Calls Tryd.prog 30 #[.agg (kcells m T tc S sc).toArray, .int .i64 tag] w fun e w' => Valued w B (valK m tag) e w' := by
  by_cases h31 : tag = 31
  · subst h31; exact valueOf_31 m T tc S sc B w h hB hno hc hs
  by_cases h32 : tag = 32
  · subst h32; exact valueOf_32 m T tc S sc B w h hB hno hc hs
  by_cases h33 : tag = 33
  · subst h33; exact valueOf_33 m T tc S sc B w h hB hno hc hs
  by_cases h34 : tag = 34
  · subst h34; exact valueOf_34 m T tc S sc B w h hB hno hc hs
  by_cases h35 : tag = 35
  · subst h35; exact valueOf_35 m T tc S sc B w h hB hno hc hs
  by_cases h36 : tag = 36
  · subst h36; exact valueOf_36 m T tc S sc B w h hB hno hc hs
  by_cases h37 : tag = 37
  · subst h37; exact valueOf_37 m T tc S sc B w h hB hno hc hs
  by_cases h38 : tag = 38
  · subst h38; exact valueOf_38 m T tc S sc B w h hB hno hc hs
  obtain rfl : tag = 39 := by omega
  exact valueOf_39 m T tc S sc B w h hB hno hc hs

theorem kisName_any (s : ByteArray) (l : List UInt8) (hl : s.data.toList = l) (w : World) (hM : ML w) (hs : l.length ≤ 1000000) :
    Calls Tryd.prog 60 #[.string s] w fun e w' => e = .returned (.bool (parses l)) ∧ w.grownBy w' none := by
  have HL := Lib.hid hl
  have HM := Lib.hid hM
  have HS := Lib.hid hs
  cases hp : parses l with
  | true =>
    have HP := Lib.hid hp
    clear hl hM hs hp
    go_enter Tryd.func60, Tryd.ntmps60
    go_wp2_with (first
      | (go_at_call 50; refine (parse_any s l HL.out _ HM.out HS.out).mono ?_; intro e w1 h1; rw [Parsed, if_pos HP.out] at h1; obtain ⟨g, n, ls, r, rfl, -, -, -, -, -, -, hb⟩ := h1; have G1 := Lib.hid (none_of_below hb (Nat.le_refl _)); clear hb)
      | refine wpList_allocC zeroN_run rfl rfl ?_
      | (refine wpList_storeC (off := 0) (p := [.slice (some ⟨g, 0, none⟩) n n, .string r]) aggN.hi rfl (.tmp 3) (.tmp 8) rfl _ rfl (nm_one _ _ _ _) (CB.new w1 105 zeroN) rfl (Nat.le_refl _) (by first | rfl | go_simp) rfl ?_; intro w4 h4 g4; have G4 := Lib.hid (none_new (grown_trans' G1.out (grown_alloc w1 _ none)) g4 G1.out.size); clear h4 g4))
    go_ret
    exact ⟨rfl, G4.out⟩
  | false =>
    have HP := Lib.hid hp
    clear hl hM hs hp
    go_enter Tryd.func60, Tryd.ntmps60
    go_wp2_with (first
      | (go_at_call 50; refine (parse_any s l HL.out _ HM.out HS.out).mono ?_; intro e w1 h1; rw [Parsed, if_neg (by rw [HP.out]; simp)] at h1; obtain ⟨rfl, hb⟩ := h1; have G1 := Lib.hid (none_of_below hb (Nat.le_refl _)); clear hb)
      | refine wpList_allocC zeroN_run rfl rfl ?_
      | (refine wpList_storeC (off := 0) (p := [.slice none 0 0, .string ⟨#[]⟩]) aggN.hi rfl (.tmp 3) (.tmp 8) rfl _ rfl (nm_one _ _ _ _) (CB.new w1 105 zeroN) rfl (Nat.le_refl _) (by first | rfl | go_simp) rfl ?_; intro w4 h4 g4; have G4 := Lib.hid (none_new (grown_trans' G1.out (grown_alloc w1 _ none)) g4 G1.out.size); clear h4 g4))
    go_ret
    exact ⟨rfl, G4.out⟩

set_option maxRecDepth 10000 in
set_option maxHeartbeats 1000000 in
theorem mayHave_32 (m : Msg) (T : Option Addr) (tc : Nat) (S : Option Addr) (sc : Nat) (w : World) (hM : ML w) (hc : m.c.size ≤ 1000000) (hs : m.s.size ≤ 1000000) :
    Calls Tryd.prog 46 #[.agg (kcells m T tc S sc).toArray, .int .i64 32] w fun e w' => e = .returned (.bool (mayK m 32)) ∧ w.grownBy w' none := by
  have q := (CB.new w 26 (kcells m T tc S sc)).at_ (i := 1) rfl
  have G0 := Lib.hid (grown_alloc w (.cells (kcells m T tc S sc).toArray 26) none)
  have HL := Lib.hid (show m.c.data.toList.length ≤ 1000000 from hc)
  have HM := Lib.hid (hM.below (below_of_none G0.out))
  obtain ⟨b, hb⟩ : ∃ b, mayK m 32 = b := ⟨_, rfl⟩
  have HB := Lib.hid (show parses m.c.data.toList = b from hb)
  rw [hb]
  obtain ⟨X, hX⟩ : ∃ X, kcells m T tc S sc = X := ⟨_, rfl⟩
  rw [hX] at q G0 HM ⊢
  clear hX hM hc hs hb
  go_enter Tryd.func46, Tryd.ntmps46
  go_wp2_with (go_at_call 60; refine (kisName_any m.c _ rfl _ HM.out HL.out).mono ?_; rw [HB.out]; rintro e w1 ⟨rfl, g⟩; have G1 := Lib.hid (grown_trans' G0.out g); clear g)
  go_ret
  exact ⟨rfl, G1.out⟩
set_option maxRecDepth 10000 in
set_option maxHeartbeats 1000000 in
theorem mayHave_33 (m : Msg) (T : Option Addr) (tc : Nat) (S : Option Addr) (sc : Nat) (w : World) (hM : ML w) (hc : m.c.size ≤ 1000000) (hs : m.s.size ≤ 1000000) :
    Calls Tryd.prog 46 #[.agg (kcells m T tc S sc).toArray, .int .i64 33] w fun e w' => e = .returned (.bool (mayK m 33)) ∧ w.grownBy w' none := by
  have q := (CB.new w 26 (kcells m T tc S sc)).at_ (i := 2) rfl
  have G0 := Lib.hid (grown_alloc w (.cells (kcells m T tc S sc).toArray 26) none)
  have HL := Lib.hid (show m.s.data.toList.length ≤ 1000000 from hs)
  have HM := Lib.hid (hM.below (below_of_none G0.out))
  obtain ⟨b, hb⟩ : ∃ b, mayK m 33 = b := ⟨_, rfl⟩
  have HB := Lib.hid (show parses m.s.data.toList = b from hb)
  rw [hb]
  obtain ⟨X, hX⟩ : ∃ X, kcells m T tc S sc = X := ⟨_, rfl⟩
  rw [hX] at q G0 HM ⊢
  clear hX hM hc hs hb
  go_enter Tryd.func46, Tryd.ntmps46
  go_wp2_with (go_at_call 60; refine (kisName_any m.s _ rfl _ HM.out HL.out).mono ?_; rw [HB.out]; rintro e w1 ⟨rfl, g⟩; have G1 := Lib.hid (grown_trans' G0.out g); clear g)
  go_ret
  exact ⟨rfl, G1.out⟩
set_option maxRecDepth 10000 in
set_option maxHeartbeats 1000000 in
theorem mayHave_34 (m : Msg) (T : Option Addr) (tc : Nat) (S : Option Addr) (sc : Nat) (w : World) (hM : ML w) (hc : m.c.size ≤ 1000000) (hs : m.s.size ≤ 1000000) :
    Calls Tryd.prog 46 #[.agg (kcells m T tc S sc).toArray, .int .i64 34] w fun e w' => e = .returned (.bool (mayK m 34)) ∧ w.grownBy w' none := by
  have q := (CB.new w 26 (kcells m T tc S sc)).at_ (i := 3) rfl
  have G0 := Lib.hid (grown_alloc w (.cells (kcells m T tc S sc).toArray 26) none)
  rw [show mayK m 34 = true from rfl]
  obtain ⟨X, hX⟩ : ∃ X, kcells m T tc S sc = X := ⟨_, rfl⟩
  rw [hX] at G0 ⊢
  clear hX hM hc hs q
  go_enter Tryd.func46, Tryd.ntmps46
  go_wp2
  go_ret
  exact ⟨rfl, G0.out⟩
set_option maxRecDepth 10000 in
set_option maxHeartbeats 1000000 in
theorem mayHave_35 (m : Msg) (T : Option Addr) (tc : Nat) (S : Option Addr) (sc : Nat) (w : World) (hM : ML w) (hc : m.c.size ≤ 1000000) (hs : m.s.size ≤ 1000000) :
    Calls Tryd.prog 46 #[.agg (kcells m T tc S sc).toArray, .int .i64 35] w fun e w' => e = .returned (.bool (mayK m 35)) ∧ w.grownBy w' none := by
  have q := (CB.new w 26 (kcells m T tc S sc)).at_ (i := 4) rfl
  have G0 := Lib.hid (grown_alloc w (.cells (kcells m T tc S sc).toArray 26) none)
  rw [show mayK m 35 = (decide (0 ≤ m.en) && decide (m.en ≤ 1099511627776)) from rfl]
  obtain ⟨X, hX⟩ : ∃ X, kcells m T tc S sc = X := ⟨_, rfl⟩
  rw [hX] at q G0 ⊢
  clear hX hM hc hs
  by_cases h1 : 0 ≤ m.en
  · by_cases h2 : m.en ≤ 1099511627776
    · have d1 : decide (0 ≤ m.en) = true := decide_eq_true h1
      have d2 : decide (m.en ≤ 1099511627776) = true := decide_eq_true h2
      rw [d1, d2]
      go_enter Tryd.func46, Tryd.ntmps46
      go_wp2
      go_ret
      exact ⟨rfl, G0.out⟩
    · have d1 : decide (0 ≤ m.en) = true := decide_eq_true h1
      have d2 : decide (m.en ≤ 1099511627776) = false := decide_eq_false h2
      rw [d1, d2]
      go_enter Tryd.func46, Tryd.ntmps46
      go_wp2
      go_ret
      exact ⟨rfl, G0.out⟩
  · have d1 : decide (0 ≤ m.en) = false := decide_eq_false h1
    rw [d1, Bool.false_and]
    go_enter Tryd.func46, Tryd.ntmps46
    go_wp2
    go_ret
    exact ⟨rfl, G0.out⟩
set_option maxRecDepth 10000 in
set_option maxHeartbeats 1000000 in
theorem mayHave_36 (m : Msg) (T : Option Addr) (tc : Nat) (S : Option Addr) (sc : Nat) (w : World) (hM : ML w) (hc : m.c.size ≤ 1000000) (hs : m.s.size ≤ 1000000) :
    Calls Tryd.prog 46 #[.agg (kcells m T tc S sc).toArray, .int .i64 36] w fun e w' => e = .returned (.bool (mayK m 36)) ∧ w.grownBy w' none := by
  have q := (CB.new w 26 (kcells m T tc S sc)).at_ (i := 5) rfl
  have G0 := Lib.hid (grown_alloc w (.cells (kcells m T tc S sc).toArray 26) none)
  rw [show mayK m 36 = (decide (0 ≤ m.fl) && decide (m.fl ≤ 3)) from rfl]
  obtain ⟨X, hX⟩ : ∃ X, kcells m T tc S sc = X := ⟨_, rfl⟩
  rw [hX] at q G0 ⊢
  clear hX hM hc hs
  by_cases h1 : 0 ≤ m.fl
  · by_cases h2 : m.fl ≤ 3
    · have d1 : decide (0 ≤ m.fl) = true := decide_eq_true h1
      have d2 : decide (m.fl ≤ 3) = true := decide_eq_true h2
      rw [d1, d2]
      go_enter Tryd.func46, Tryd.ntmps46
      go_wp2
      go_ret
      exact ⟨rfl, G0.out⟩
    · have d1 : decide (0 ≤ m.fl) = true := decide_eq_true h1
      have d2 : decide (m.fl ≤ 3) = false := decide_eq_false h2
      rw [d1, d2]
      go_enter Tryd.func46, Tryd.ntmps46
      go_wp2
      go_ret
      exact ⟨rfl, G0.out⟩
  · have d1 : decide (0 ≤ m.fl) = false := decide_eq_false h1
    rw [d1, Bool.false_and]
    go_enter Tryd.func46, Tryd.ntmps46
    go_wp2
    go_ret
    exact ⟨rfl, G0.out⟩
set_option maxRecDepth 10000 in
set_option maxHeartbeats 1000000 in
theorem mayHave_37 (m : Msg) (T : Option Addr) (tc : Nat) (S : Option Addr) (sc : Nat) (w : World) (hM : ML w) (hc : m.c.size ≤ 1000000) (hs : m.s.size ≤ 1000000) :
    Calls Tryd.prog 46 #[.agg (kcells m T tc S sc).toArray, .int .i64 37] w fun e w' => e = .returned (.bool (mayK m 37)) ∧ w.grownBy w' none := by
  have q := (CB.new w 26 (kcells m T tc S sc)).at_ (i := 6) rfl
  have G0 := Lib.hid (grown_alloc w (.cells (kcells m T tc S sc).toArray 26) none)
  obtain ⟨n, hn⟩ : ∃ n, m.t.length = n := ⟨_, rfl⟩
  rw [show mayK m 37 = decide (m.t.length ≤ 3000) from rfl, hn]
  have q := q.trans (congrArg (fun k => some (Value.slice T k tc)) hn)
  obtain ⟨X, hX⟩ : ∃ X, kcells m T tc S sc = X := ⟨_, rfl⟩
  rw [hX] at q G0 ⊢
  clear hX hM hc hs hn
  by_cases h1 : n ≤ 3000
  · have h2 : (n : Int) ≤ 3000 := by omega
    rw [decide_eq_true h1]
    go_enter Tryd.func46, Tryd.ntmps46
    go_wp2
    go_ret
    exact ⟨rfl, G0.out⟩
  · have h2 : ¬ ((n : Int) ≤ 3000) := by omega
    rw [decide_eq_false h1]
    go_enter Tryd.func46, Tryd.ntmps46
    go_wp2
    go_ret
    exact ⟨rfl, G0.out⟩
set_option maxRecDepth 10000 in
set_option maxHeartbeats 1000000 in
theorem mayHave_38 (m : Msg) (T : Option Addr) (tc : Nat) (S : Option Addr) (sc : Nat) (w : World) (hM : ML w) (hc : m.c.size ≤ 1000000) (hs : m.s.size ≤ 1000000) :
    Calls Tryd.prog 46 #[.agg (kcells m T tc S sc).toArray, .int .i64 38] w fun e w' => e = .returned (.bool (mayK m 38)) ∧ w.grownBy w' none := by
  have q := (CB.new w 26 (kcells m T tc S sc)).at_ (i := 7) rfl
  have G0 := Lib.hid (grown_alloc w (.cells (kcells m T tc S sc).toArray 26) none)
  obtain ⟨n, hn⟩ : ∃ n, m.sl.length = n := ⟨_, rfl⟩
  rw [show mayK m 38 = decide (m.sl.length ≤ 3000) from rfl, hn]
  have q := q.trans (congrArg (fun k => some (Value.slice S k sc)) hn)
  obtain ⟨X, hX⟩ : ∃ X, kcells m T tc S sc = X := ⟨_, rfl⟩
  rw [hX] at q G0 ⊢
  clear hX hM hc hs hn
  by_cases h1 : n ≤ 3000
  · have h2 : (n : Int) ≤ 3000 := by omega
    rw [decide_eq_true h1]
    go_enter Tryd.func46, Tryd.ntmps46
    go_wp2
    go_ret
    exact ⟨rfl, G0.out⟩
  · have h2 : ¬ ((n : Int) ≤ 3000) := by omega
    rw [decide_eq_false h1]
    go_enter Tryd.func46, Tryd.ntmps46
    go_wp2
    go_ret
    exact ⟨rfl, G0.out⟩
set_option maxRecDepth 10000 in
set_option maxHeartbeats 1000000 in
theorem mayHave_39 (m : Msg) (T : Option Addr) (tc : Nat) (S : Option Addr) (sc : Nat) (w : World) (hM : ML w) (hc : m.c.size ≤ 1000000) (hs : m.s.size ≤ 1000000) :
    Calls Tryd.prog 46 #[.agg (kcells m T tc S sc).toArray, .int .i64 39] w fun e w' => e = .returned (.bool (mayK m 39)) ∧ w.grownBy w' none := by
  have q := (CB.new w 26 (kcells m T tc S sc)).at_ (i := 8) rfl
  have G0 := Lib.hid (grown_alloc w (.cells (kcells m T tc S sc).toArray 26) none)
  rw [show mayK m 39 = (decide (1 ≤ m.co) && decide (m.co ≤ 999)) from rfl]
  obtain ⟨X, hX⟩ : ∃ X, kcells m T tc S sc = X := ⟨_, rfl⟩
  rw [hX] at q G0 ⊢
  clear hX hM hc hs
  by_cases h1 : 1 ≤ m.co
  · by_cases h2 : m.co ≤ 999
    · have d1 : decide (1 ≤ m.co) = true := decide_eq_true h1
      have d2 : decide (m.co ≤ 999) = true := decide_eq_true h2
      rw [d1, d2]
      go_enter Tryd.func46, Tryd.ntmps46
      go_wp2
      go_ret
      exact ⟨rfl, G0.out⟩
    · have d1 : decide (1 ≤ m.co) = true := decide_eq_true h1
      have d2 : decide (m.co ≤ 999) = false := decide_eq_false h2
      rw [d1, d2]
      go_enter Tryd.func46, Tryd.ntmps46
      go_wp2
      go_ret
      exact ⟨rfl, G0.out⟩
  · have d1 : decide (1 ≤ m.co) = false := decide_eq_false h1
    rw [d1, Bool.false_and]
    go_enter Tryd.func46, Tryd.ntmps46
    go_wp2
    go_ret
    exact ⟨rfl, G0.out⟩
theorem mayHave_any (tag : Int) (h1 : 32 ≤ tag) (h2 : tag ≤ 39) (m : Msg) (T : Option Addr) (tc : Nat) (S : Option Addr) (sc : Nat) (w : World) (hM : ML w) (hc : m.c.size ≤ 1000000) (hs : m.s.size ≤ 1000000) :
    Calls Tryd.prog 46 #[.agg (kcells m T tc S sc).toArray, .int .i64 tag] w fun e w' => e = .returned (.bool (mayK m tag)) ∧ w.grownBy w' none := by
  by_cases h32 : tag = 32
  · subst h32; exact mayHave_32 m T tc S sc w hM hc hs
  by_cases h33 : tag = 33
  · subst h33; exact mayHave_33 m T tc S sc w hM hc hs
  by_cases h34 : tag = 34
  · subst h34; exact mayHave_34 m T tc S sc w hM hc hs
  by_cases h35 : tag = 35
  · subst h35; exact mayHave_35 m T tc S sc w hM hc hs
  by_cases h36 : tag = 36
  · subst h36; exact mayHave_36 m T tc S sc w hM hc hs
  by_cases h37 : tag = 37
  · subst h37; exact mayHave_37 m T tc S sc w hM hc hs
  by_cases h38 : tag = 38
  · subst h38; exact mayHave_38 m T tc S sc w hM hc hs
  obtain rfl : tag = 39 := by omega
  exact mayHave_39 m T tc S sc w hM hc hs

theorem RI.of_len {w : World} {B : Nat} {A : Option Addr} {l : List Int} {c : Nat} (h : RI w B A l c) (hp : 0 < l.length) : ∃ b off, A = some ⟨b, off, none⟩ ∧ ∀ j, j < l.length → w.cell? ⟨b, off + j, none⟩ = some (.int .i64 (l.getD j 0)) := by
  obtain ⟨b, off, hA, _, hc⟩ := h.open_ hp
  refine ⟨b, off, hA, fun j hj => ?_⟩
  rw [hc j hj]
  simp [List.getD, List.getElem?_eq_getElem hj]
/-- The tags from one on, as the loop of Check goes through them. -/
def restK (k : Nat) : List Int := ((List.range 8).drop k).map fun i => ((32 + i : Nat) : Int)
theorem okK_split (m : Msg) : okK m = (decide (tagsK m.kd ≠ []) && (restK 0).all (stepK m)) := rfl
theorem restK_next (k : Nat) (h : k < 8) : restK k = ((32 + k : Nat) : Int) :: restK (k + 1) := by
  rcases k with _ | _ | _ | _ | _ | _ | _ | _ | k <;> first | rfl | omega
theorem tagsK_length (k : Int) : (tagsK k).length ≤ 7 := by
  unfold tagsK
  repeat' split
  all_goals decide
set_option maxRecDepth 10000 in
set_option maxHeartbeats 2000000 in
theorem check_k (m : Msg) (T : Option Addr) (tc : Nat) (S : Option Addr) (sc B : Nat) (w : World) (hM : ML w) (h : KM w B m T tc S sc) (hB : B ≤ w.heap.size) (hno : m.no < 18446744073709551616) (hc : m.c.size ≤ 1000000) (hs : m.s.size ≤ 1000000) :
    Calls Tryd.prog 28 #[.agg (kcells m T tc S sc).toArray] w fun e w' => e = .returned (.int .i64 (if okK m = true then 0 else 1)) ∧ w.grownBy w' none := by
  have HM := Lib.hid hM
  have HK := Lib.hid h
  have HB := Lib.hid hB
  have HNO := Lib.hid hno
  have HC := Lib.hid hc
  have HS := Lib.hid hs
  have B0 := Lib.hid (CB.new w 26 (kcells m T tc S sc))
  have G0 := Lib.hid (grown_alloc w (.cells (kcells m T tc S sc).toArray 26) none)
  have q0 := B0.out.at_ (i := 0) (v := .int .i64 m.kd) rfl
  obtain ⟨ks, hks⟩ : ∃ ks, tagsK m.kd = ks := ⟨_, rfl⟩
  have HKS := Lib.hid hks
  have HKN := Lib.hid (show ks.length ≤ 7 by rw [← hks]; exact tagsK_length _)
  have HOK := Lib.hid (okK_split m)
  obtain ⟨ans, hans⟩ : ∃ a : Int, (if okK m = true then (0 : Int) else 1) = a := ⟨_, rfl⟩
  have HANS := Lib.hid hans
  rw [hans]
  clear hans
  by_cases h0 : ks = []
  · subst h0
    have HR := Lib.hid (show okK m = false by rw [okK_split, hks]; rfl)
    clear hM h hB hno hc hs hks
    go_enter Tryd.func28, Tryd.ntmps28
    go_wp2_with (go_at_call 29; refine (tagsOf_any m.kd _).mono ?_; rintro e w1 ⟨v, rfl, hi, g⟩; rw [HKS.out] at hi; obtain ⟨A, c, rfl, hr⟩ := hi; have G1 := Lib.hid (grown_trans' G0.out g); clear g hr)
    go_ret
    exact ⟨by rw [← HANS.out, HR.out]; rfl, G1.out⟩
  · obtain ⟨n, hn⟩ : ∃ n, ks.length = n := ⟨_, rfl⟩
    have HN := Lib.hid hn
    have hnp : 0 < n := by
      rw [← hn]
      exact List.length_pos_iff.2 h0
    have hne : ¬ ((n : Int) = 0) := by omega
    have hne2 : ((n : Int) == 0) = false := by simpa using hne
    have HNP := Lib.hid hnp
    have HR := Lib.hid (show okK m = (restK 0).all (stepK m) by rw [okK_split, hks, decide_eq_true h0, Bool.true_and])
    clear hM h hB hno hc hs hks h0 hnp
    go_enter Tryd.func28, Tryd.ntmps28
    go_wp2_with (go_at_call 29; refine (tagsOf_any m.kd _).mono ?_; rintro e w1 ⟨v, rfl, hi, g⟩; rw [HKS.out] at hi; obtain ⟨A, c, rfl, hr⟩ := hi; rw [HN.out]; have G1 := Lib.hid (grown_trans' G0.out g); have B1 := Lib.hid (B0.out.kept g); have R1 := Lib.hid hr; clear g hr)
    go_loopw [4] (fun i wr => ∃ k : Nat, i = .int .i64 ((32 + k : Nat) : Int) ∧ k ≤ 8 ∧ (restK 0).all (stepK m) = (restK k).all (stepK m) ∧ w1.grownBy wr none) (fun i _ => 40 - (intOf i).toNat)
    case atStart => exact ⟨0, rfl, by omega, rfl, World.grownBy.refl _ _⟩
    case round =>
      obtain ⟨k, rfl, hk, hall, hg⟩ := hrel
      have GR := Lib.hid hg
      have HALL := Lib.hid hall
      clear hg hall
      by_cases hlt : k < 8
      · have hle : ((32 + k : Nat) : Int) ≤ 39 := by omega
        obtain ⟨tg, htg⟩ : ∃ t : Int, ((32 + k : Nat) : Int) = t := ⟨_, rfl⟩
        have HT1 := Lib.hid (show 32 ≤ tg by omega)
        have HT2 := Lib.hid (show tg ≤ 39 by omega)
        have HTK := Lib.hid htg
        have HST := Lib.hid (show (restK k).all (stepK m) = (stepK m tg && (restK (k + 1)).all (stepK m)) by rw [restK_next k hlt, htg]; rfl)
        obtain ⟨L, hL⟩ : ∃ L, valK m tg = L := ⟨_, rfl⟩
        have HLL := Lib.hid hL
        obtain ⟨nl, hnl⟩ : ∃ n, L.length = n := ⟨_, rfl⟩
        have HNL := Lib.hid hnl
        have BR := Lib.hid (B1.out.kept GR.out)
        have G2 := Lib.hid (grown_trans' G1.out GR.out)
        obtain ⟨b, off, hA, hcell⟩ := R1.out.of_len (by rw [HN.out]; exact HNP.out)
        have hsz := R1.out
        subst hA
        have HCE := Lib.hid (show ∀ j, j < ks.length → wr.cell? ⟨b, off + j, none⟩ = some (.int .i64 (ks.getD j 0)) from fun j hj => by
          obtain ⟨b', off', hA', hb', hc'⟩ := R1.out.open_ (by rw [HN.out]; exact HNP.out)
          injection hA' with hA'
          injection hA' with h1 h2
          subst h1 h2
          rw [(below_of_none GR.out).cell (p := ⟨b, off + j, none⟩) hb']
          exact hcell j hj)
        clear hcell hL hnl hsz
        have TK1 := Lib.hid True.intro
        rw [htg] at hle ⊢
        have hge := HT1.out
        have hmax : ks.take n = ks := List.take_of_length_le (by rw [HN.out]; exact Nat.le_refl _)
        have HMAX := Lib.hid hmax
        clear hmax
        cases hin : ks.contains tg with
        | true =>
          have HIN := Lib.hid hin
          obtain ⟨mb, hmb⟩ : ∃ b, mayK m tg = b := ⟨_, rfl⟩
          have HMB := Lib.hid hmb
          have HSTEP := Lib.hid (show stepK m tg = mb by rw [stepK, HKS.out, hin, if_pos rfl, hmb])
          clear hin hmb htg
          cases mb with
          | true =>
            go_wp2_with (first
              | (have hx := TK1; clear hx; refine wpList_loadC (off := 0) (p := kcells m T tc S sc) aggKm rfl (.tmp 1) rfl BR.out rfl (by rw [kcells_length]; omega) (by first | rfl | go_simp) ?_)
              | (go_at_call 30; refine (valueOf_any tg (by have := HT1.out; omega) HT2.out m T tc S sc B _ (HK.out.kept G2.out HB.out) (Nat.le_trans HB.out G2.out.size) HNO.out (by have := HC.out; omega) (by have := HS.out; omega)).mono ?_; rw [HLL.out]; rintro e w3 ⟨V, vc, rfl, -, -, g⟩; rw [HNL.out]; have G3 := Lib.hid g; have B3 := Lib.hid (BR.out.kept g); clear TK1 g)
              | (go_at_call 45; refine (sh_slices_Contains_int b off n c ks tg _ (by rw [HN.out]; exact Nat.le_refl _) (by have := HN.out; have := HKN.out; omega) (fun j hj => by obtain ⟨b', off', hA', hb', hc'⟩ := R1.out.open_ (by rw [HN.out]; exact HNP.out); injection hA' with hA'; injection hA' with h1 h2; subst h1 h2; rw [(below_of_none G3.out).cell (p := ⟨b, off + j, none⟩) (Nat.lt_of_lt_of_le hb' GR.out.size)]; exact HCE.out j hj)).mono ?_; rw [HMAX.out, HIN.out]; rintro e w4 ⟨rfl, rfl⟩; have G4 := Lib.hid G3.out; clear G3)
              | (refine wpList_loadC (off := 0) (p := kcells m T tc S sc) aggKm rfl (.tmp 1) rfl B3.out rfl (by rw [kcells_length]; omega) (by first | rfl | go_simp) ?_)
              | (go_at_call 46; refine (mayHave_any tg HT1.out HT2.out m T tc S sc _ (HM.out.below (below_of_none (grown_trans' G2.out G4.out))) HC.out HS.out).mono ?_; rw [HMB.out]; rintro e w5 ⟨rfl, g⟩; have G5 := Lib.hid (grown_trans' G4.out g); clear g))
            go_roundw
            case rel => exact ⟨k + 1, by have := HTK.out; have h9 : ((32 + (k + 1) : Nat) : Int) = tg + 1 := (by omega); first | (rw [h9]; done) | (rw [h9]; go_num), by omega, by rw [HALL.out, HST.out, HSTEP.out, Bool.true_and], grown_trans' GR.out G5.out⟩
            case measure => have := HTK.out; simp [intOf]; omega
          | false =>
            go_wp2_with (first
              | (have hx := TK1; clear hx; refine wpList_loadC (off := 0) (p := kcells m T tc S sc) aggKm rfl (.tmp 1) rfl BR.out rfl (by rw [kcells_length]; omega) (by first | rfl | go_simp) ?_)
              | (go_at_call 30; refine (valueOf_any tg (by have := HT1.out; omega) HT2.out m T tc S sc B _ (HK.out.kept G2.out HB.out) (Nat.le_trans HB.out G2.out.size) HNO.out (by have := HC.out; omega) (by have := HS.out; omega)).mono ?_; rw [HLL.out]; rintro e w3 ⟨V, vc, rfl, -, -, g⟩; rw [HNL.out]; have G3 := Lib.hid g; have B3 := Lib.hid (BR.out.kept g); clear TK1 g)
              | (go_at_call 45; refine (sh_slices_Contains_int b off n c ks tg _ (by rw [HN.out]; exact Nat.le_refl _) (by have := HN.out; have := HKN.out; omega) (fun j hj => by obtain ⟨b', off', hA', hb', hc'⟩ := R1.out.open_ (by rw [HN.out]; exact HNP.out); injection hA' with hA'; injection hA' with h1 h2; subst h1 h2; rw [(below_of_none G3.out).cell (p := ⟨b, off + j, none⟩) (Nat.lt_of_lt_of_le hb' GR.out.size)]; exact HCE.out j hj)).mono ?_; rw [HMAX.out, HIN.out]; rintro e w4 ⟨rfl, rfl⟩; have G4 := Lib.hid G3.out; clear G3)
              | (refine wpList_loadC (off := 0) (p := kcells m T tc S sc) aggKm rfl (.tmp 1) rfl B3.out rfl (by rw [kcells_length]; omega) (by first | rfl | go_simp) ?_)
              | (go_at_call 46; refine (mayHave_any tg HT1.out HT2.out m T tc S sc _ (HM.out.below (below_of_none (grown_trans' G2.out G4.out))) HC.out HS.out).mono ?_; rw [HMB.out]; rintro e w5 ⟨rfl, g⟩; have G5 := Lib.hid (grown_trans' G4.out g); clear g))
            go_ret
            exact ⟨by rw [← HANS.out, HR.out, HALL.out, HST.out, HSTEP.out]; rfl, grown_trans' G1.out (grown_trans' GR.out G5.out)⟩
        | false =>
          have HIN := Lib.hid hin
          have HSTEP := Lib.hid (show stepK m tg = decide (nl = 0) by rw [stepK, HKS.out, hin, if_neg (by simp), HLL.out, HNL.out])
          clear hin htg
          by_cases hz : nl = 0
          · have HZ := Lib.hid hz
            have hzi : ((nl : Int) == 0) = true := by simpa using hz
            clear hz
            go_wp2_with (first
              | (have hx := TK1; clear hx; refine wpList_loadC (off := 0) (p := kcells m T tc S sc) aggKm rfl (.tmp 1) rfl BR.out rfl (by rw [kcells_length]; omega) (by first | rfl | go_simp) ?_)
              | (go_at_call 30; refine (valueOf_any tg (by have := HT1.out; omega) HT2.out m T tc S sc B _ (HK.out.kept G2.out HB.out) (Nat.le_trans HB.out G2.out.size) HNO.out (by have := HC.out; omega) (by have := HS.out; omega)).mono ?_; rw [HLL.out]; rintro e w3 ⟨V, vc, rfl, -, -, g⟩; rw [HNL.out]; have G3 := Lib.hid g; have B3 := Lib.hid (BR.out.kept g); clear TK1 g)
              | (go_at_call 45; refine (sh_slices_Contains_int b off n c ks tg _ (by rw [HN.out]; exact Nat.le_refl _) (by have := HN.out; have := HKN.out; omega) (fun j hj => by obtain ⟨b', off', hA', hb', hc'⟩ := R1.out.open_ (by rw [HN.out]; exact HNP.out); injection hA' with hA'; injection hA' with h1 h2; subst h1 h2; rw [(below_of_none G3.out).cell (p := ⟨b, off + j, none⟩) (Nat.lt_of_lt_of_le hb' GR.out.size)]; exact HCE.out j hj)).mono ?_; rw [HMAX.out, HIN.out]; rintro e w4 ⟨rfl, rfl⟩; have G4 := Lib.hid G3.out; clear G3))
            go_roundw
            case rel => exact ⟨k + 1, by have := HTK.out; have h9 : ((32 + (k + 1) : Nat) : Int) = tg + 1 := (by omega); first | (rw [h9]; done) | (rw [h9]; go_num), by omega, by rw [HALL.out, HST.out, HSTEP.out, decide_eq_true HZ.out, Bool.true_and], grown_trans' GR.out G4.out⟩
            case measure => have := HTK.out; simp [intOf]; omega
          · have HZ := Lib.hid hz
            have hzi : ((nl : Int) == 0) = false := by simpa using hz
            clear hz
            go_wp2_with (first
              | (have hx := TK1; clear hx; refine wpList_loadC (off := 0) (p := kcells m T tc S sc) aggKm rfl (.tmp 1) rfl BR.out rfl (by rw [kcells_length]; omega) (by first | rfl | go_simp) ?_)
              | (go_at_call 30; refine (valueOf_any tg (by have := HT1.out; omega) HT2.out m T tc S sc B _ (HK.out.kept G2.out HB.out) (Nat.le_trans HB.out G2.out.size) HNO.out (by have := HC.out; omega) (by have := HS.out; omega)).mono ?_; rw [HLL.out]; rintro e w3 ⟨V, vc, rfl, -, -, g⟩; rw [HNL.out]; have G3 := Lib.hid g; have B3 := Lib.hid (BR.out.kept g); clear TK1 g)
              | (go_at_call 45; refine (sh_slices_Contains_int b off n c ks tg _ (by rw [HN.out]; exact Nat.le_refl _) (by have := HN.out; have := HKN.out; omega) (fun j hj => by obtain ⟨b', off', hA', hb', hc'⟩ := R1.out.open_ (by rw [HN.out]; exact HNP.out); injection hA' with hA'; injection hA' with h1 h2; subst h1 h2; rw [(below_of_none G3.out).cell (p := ⟨b, off + j, none⟩) (Nat.lt_of_lt_of_le hb' GR.out.size)]; exact HCE.out j hj)).mono ?_; rw [HMAX.out, HIN.out]; rintro e w4 ⟨rfl, rfl⟩; have G4 := Lib.hid G3.out; clear G3))
            go_ret
            exact ⟨by rw [← HANS.out, HR.out, HALL.out, HST.out, HSTEP.out, decide_eq_false HZ.out]; rfl, grown_trans' G1.out (grown_trans' GR.out G4.out)⟩
      · obtain rfl : k = 8 := by omega
        have HE := Lib.hid (show okK m = true by rw [HR.out, HALL.out]; rfl)
        clear hlt hk
        go_wp2
        go_ret
        exact ⟨by rw [← HANS.out, HE.out]; rfl, grown_trans' G1.out GR.out⟩
end Go.Proofs.YtnfmbgmncdodkaaDoor
namespace Go.Proofs.YtnfmbgmncdodkaaDoor
open Go.RowKit

theorem RB.apart {w w' : World} {r : Option Nat} {A : Option Addr} {l : List UInt8} {c : Nat} (h : RB w w.heap.size A l c) (hg : w.grownBy w' r) (ha : ∀ a, A = some a → l = [] ∨ r ≠ some a.block) : RB w' w'.heap.size A l c := by
  refine ⟨h.1, h.2.1, h.2.2.imp id fun ⟨a, hA, hc⟩ => ⟨a, hA, fun k u hu => ?_⟩⟩
  obtain ⟨hb, hcell⟩ := hc k u hu
  refine ⟨Nat.lt_of_lt_of_le hb hg.size, ?_⟩
  have hne : r ≠ some a.block := by
    rcases ha a hA with rfl | h1
    · simp at hu
    · exact h1
  have hblk := hg.block a.block hb (fun e => hne e.symm)
  rw [← hcell]
  unfold World.cell?
  rw [show (a.add k).block = a.block from add_block _ _, hblk]
/-- A row of fields of the call's own; the values can be read. -/
def OwnR (w : World) (base : Nat) (v : Value) (fs : List Fd) : Prop :=
  ∃ vs : List Value, vs.length = fs.length ∧ w.ownsRow base 64 2 v fs.length (fcells fs vs) ∧
    ∀ (k : Nat) (f : Fd) (u : Value), fs[k]? = some f → vs[k]? = some u → ∃ A c, u = .slice A f.2.length c ∧ RB w w.heap.size A f.2 c ∧ (∀ a, A = some a → f.2 = [] ∨ v.ownBlock ≠ some a.block)
theorem OwnR.nil_ (w : World) (base : Nat) : OwnR w base (.slice none 0 0) [] := ⟨[], rfl, World.ownsRow_nil w base _ 2, fun k f u hf _ => by simp at hf⟩
theorem OwnR.lt {w : World} {base : Nat} {v : Value} {fs : List Fd} (h : OwnR w base v fs) : ∀ k, v.ownBlock = some k → base ≤ k ∧ k < w.heap.size := by
  obtain ⟨vs, h1, h2, h3⟩ := h
  exact World.ownsRow.lt h2
theorem OwnR.kept {w w' : World} {base : Nat} {v : Value} {fs : List Fd} (h : OwnR w base v fs) (hg : w.grownBy w' none) : OwnR w' base v fs := by
  obtain ⟨vs, h1, h2, h3⟩ := h
  refine ⟨vs, h1, World.ownsRow.kept (row := none) h2 hg (by cases hv : v.ownBlock <;> simp), fun k f u hf hu => ?_⟩
  obtain ⟨A, c, hv, hr, ha⟩ := h3 k f u hf hu
  exact ⟨A, c, hv, hr.keptB hg, ha⟩
theorem OwnR.shape {w : World} {base : Nat} {v : Value} {fs : List Fd} (h : OwnR w base v fs) : ∃ A cap, v = .slice A fs.length cap ∧ RF w w.heap.size A fs cap := by
  obtain ⟨vs, h1, h2, h3⟩ := h
  rcases h2.2 with ⟨rfl, hl⟩ | ⟨g, cap, cur, rfl, hb, hg, hc, hm, _⟩
  · refine ⟨none, 0, by rw [hl], ?_⟩
    have : fs = [] := List.eq_nil_of_length_eq_zero hl
    subst this
    exact RF.nil_ _ _
  · refine ⟨_, cap, rfl, ⟨hc, hm, .inr ⟨_, rfl, fun k f hf => ?_⟩⟩⟩
    have hk : k < vs.length := by rw [h1]; exact (List.getElem?_eq_some_iff.1 hf).1
    have hu := List.getElem?_eq_getElem hk
    obtain ⟨c0, c1⟩ := fcells_at fs vs k f _ hf hu
    obtain ⟨V, c, hV, hr, _⟩ := h3 k f _ hf hu
    refine ⟨(Array.getElem?_eq_some_iff.1 hg).1, h2.cells (g := g) rfl _ _ c0, V, c, ?_, hr⟩
    rw [← hV]
    exact h2.cells (g := g) rfl _ _ c1

section
variable {P : Program} {w : World} {ops : Array Oper} {rest : List Oper} {o : Oper} {a : Act} {Q : Exit → Act → World → Prop}
theorem run_appR {t : TypeId} (hT : FieldT P t 64) (ty : TypeId) {base : Nat} {v : Value} {fs : List Fd} {f : Fd} {ad : Addr} {c : Nat} {V : Option Addr} {vc : Nat} (hown : OwnR w base v fs) (hu : RB w w.heap.size V f.2 vc) (hap : ∀ a, V = some a → f.2 = [] ∨ v.ownBlock ≠ some a.block)
    (h0 : w.cell? ad = some (.int .i64 f.1)) (h1 : w.cell? (ad.add 1) = some (.slice V f.2.length vc)) (hlen : fs.length ≤ 1000000) (hbase : base ≤ w.heap.size) :
    ∃ v' w', (Builtin.append_ #[t, t] ty #[v, .slice (some ad) 1 c]).run P w = .ok v' w' ∧ OwnR w' base v' (fs ++ [f]) ∧ w.grownBy w' v.ownBlock := by
  obtain ⟨vs, hl, hrow, hvs⟩ := hown
  obtain ⟨i0, hi, hz0, hz1, hz2⟩ := info_parts hT.hi
  obtain ⟨v', w', hrun, ho, hg, hn, hp⟩ := run_append_own_at (P := P) w base t ty 64 i0 (.agg #[.int .i64 0, .slice none 0 0]) 2 32 hT.ht hi hz0 hz1 hz2 rfl (by decide) v fs.length (fcells fs vs) hrow
    ad 1 c [.int .i64 f.1, .slice V f.2.length vc] rfl (fun j x hx => by
      match j, hx with
      | 0, hx => simp at hx; subst hx; simpa [Addr.add] using h0
      | 1, hx => simp at hx; subst hx; exact h1
      | j + 2, hx => simp at hx) (fun x hx => by
      simp at hx
      rcases hx with rfl | rfl
      · rfl
      · rfl) (by unfold maxLen; omega) (by omega) hbase
  have hfar : ∀ (A : Option Addr) (l : List UInt8) (c : Nat), RB w w.heap.size A l c → (∀ a, A = some a → l = [] ∨ v.ownBlock ≠ some a.block) → ∀ a, A = some a → l = [] ∨ v'.ownBlock ≠ some a.block := by
    intro A l c hr ha x hx
    rcases hr.ahead x hx with h | h
    · exact .inl h
    · rcases hp with hp | hp
      · rw [hp]; exact ha x hx
      · refine .inr ?_
        rw [hp]
        intro he
        injection he with he
        omega
  refine ⟨v', w', hrun, ⟨vs ++ [.slice V f.2.length vc], by simp [hl], ?_, fun k f' u' hf hu' => ?_⟩, hg⟩
  · rw [fcells_snoc fs vs hl, List.length_append]
    exact ho
  · by_cases hk : k < fs.length
    · rw [List.getElem?_append_left hk] at hf
      rw [List.getElem?_append_left (by omega)] at hu'
      obtain ⟨A, c', hv, hr, ha⟩ := hvs k f' u' hf hu'
      exact ⟨A, c', hv, hr.apart hg ha, hfar A _ c' hr ha⟩
    · have hk' : k = fs.length := by
        have := (List.getElem?_eq_some_iff.1 hf).1
        simp at this
        omega
      subst hk'
      rw [List.getElem?_append_right (Nat.le_refl _)] at hf
      rw [← hl, List.getElem?_append_right (Nat.le_refl _)] at hu'
      simp at hf hu'
      subst hf hu'
      exact ⟨V, vc, rfl, hu.apart hg hap, hfar V _ vc hu hap⟩
theorem wpList_appR {t : TypeId} (hT : FieldT P t 64) (hgd : o.guard = none) (s x : Operand)
    (ho : o.op = .call { callee := .builtin .append, args := #[s, x], argTypes := #[t, t] })
    {base : Nat} {v : Value} {fs : List Fd} {f : Fd} {ad : Addr} {c : Nat} {V : Option Addr} {vc : Nat} (hown : OwnR w base v fs) (hu : RB w w.heap.size V f.2 vc) (hap : ∀ a, V = some a → f.2 = [] ∨ v.ownBlock ≠ some a.block)
    (h0 : w.cell? ad = some (.int .i64 f.1)) (h1 : w.cell? (ad.add 1) = some (.slice V f.2.length vc))
    (hs : a.eval s = v) (hx : a.eval x = .slice (some ad) 1 c) (hlen : fs.length ≤ 1000000) (hbase : base ≤ w.heap.size)
    (h : ∀ v' w', OwnR w' base v' (fs ++ [f]) → w.grownBy w' v.ownBlock → wpList P ops Q rest (a.put o.dst v') w') : wpList P ops Q (o :: rest) a w := by
  refine wpList_plain hgd fun K hK => ?_
  obtain ⟨v', w', hrun, h2, h3⟩ := run_appR hT o.type hown hu hap h0 h1 hlen hbase
  unfold Oper.wp execOp
  simp only [ho, resolve, invoke, builtin, Sem.run_bind, Sem.run_pure, Result.andThen_ok, List.map_toArray, List.map_cons, List.map_nil, hs, hx]
  rw [hrun]
  exact hK _ _ (h v' w' h2 h3)
end

theorem CB.two (w : World) (t : TypeId) (a b : Value) : (w.alloc (.cells #[a, b] t)).cell? ⟨w.heap.size, 0, none⟩ = some a ∧ (w.alloc (.cells #[a, b] t)).cell? ((⟨w.heap.size, 0, none⟩ : Addr).add 1) = some b := by
  have h := CB.new w t [a, b]
  exact ⟨h.at_ rfl, h.at_ (i := 1) rfl⟩
/-- 'append(fs, api.Field{Tag: tg, Value: u})', the literal just made. -/
theorem wpList_appLit {P : Program} {w : World} {ops : Array Oper} {rest : List Oper} {o : Oper} {a : Act} {Q : Exit → Act → World → Prop} {t : TypeId} (hT : FieldT P t 64) (hgd : o.guard = none) (s x : Operand)
    (ho : o.op = .call { callee := .builtin .append, args := #[s, x], argTypes := #[t, t] })
    {base n : Nat} {v : Value} {fs : List Fd} {tg : Int} {L : List UInt8} {V : Option Addr} {vc : Nat} (hn : L.length = n) (hown : OwnR w base v fs) (hu : RB w w.heap.size V L vc) (hap : ∀ a, V = some a → L = [] ∨ v.ownBlock ≠ some a.block)
    (hs : a.eval s = v) (hx : a.eval x = .slice (some ⟨w.heap.size, 0, none⟩) 1 1) (hlen : fs.length ≤ 1000000) (hbase : base ≤ w.heap.size)
    (h : ∀ v' w', OwnR w' base v' (fs ++ [(tg, L)]) → (w.alloc (.cells #[.int .i64 tg, .slice V n vc] 64)).grownBy w' v.ownBlock → wpList P ops Q rest (a.put o.dst v') w') :
    wpList P ops Q (o :: rest) a (w.alloc (.cells #[.int .i64 tg, .slice V n vc] 64)) := by
  subst hn
  have hg := grown_alloc w (.cells #[.int .i64 tg, .slice V L.length vc] 64) none
  exact wpList_appR (f := (tg, L)) hT hgd s x ho (hown.kept hg) (hu.keptB hg) hap (CB.two w _ _ _).1 (CB.two w _ _ _).2 hs hx hlen (Nat.le_trans hbase hg.size) h

/-- A message's fields. -/
def fieldsK (m : Msg) : List Fd := (tagsK m.kd).map fun t => (t, valK m t)
def bytesK (m : Msg) : List UInt8 := bytesF (fieldsK m)
theorem tagsK_in (k t : Int) (h : t ∈ tagsK k) : 31 ≤ t ∧ t ≤ 39 := by
  unfold tagsK at h
  repeat' split at h
  all_goals first
    | (simp at h; done)
    | (simp only [List.mem_cons, List.not_mem_nil, or_false] at h; omega)
/-- Every value is no longer than its message lets it be. -/
def lensK (m : Msg) : Prop := m.c.size ≤ 10000 ∧ m.s.size ≤ 10000 ∧ m.t.length ≤ 60000 ∧ m.sl.length ≤ 60000
theorem valK_length (m : Msg) (h : lensK m) (t : Int) : (valK m t).length ≤ 60000 := by
  obtain ⟨h1, h2, h3, h4⟩ := h
  have e1 : m.c.data.toList.length = m.c.size := rfl
  have e2 : m.s.data.toList.length = m.s.size := rfl
  have n1 := numB_length (u64n m.kd)
  have n2 := numB_length m.no
  have n3 := numB_length (u64n m.en)
  have n4 := numB_length (u64n m.fl)
  have n5 := numB_length (u64n m.co)
  unfold valK
  repeat' split
  all_goals first | omega | simp
theorem fieldsK_chk (m : Msg) (h : lensK m) : ∀ f ∈ fieldsK m, chk f = 0 := by
  intro f hf
  obtain ⟨t, ht, rfl⟩ := List.mem_map.1 hf
  obtain ⟨h1, h2⟩ := tagsK_in _ _ ht
  exact chk_ok (show (1 : Int) ≤ t by omega) (show t ≤ 255 by omega) (show (valK m t).length ≤ 65535 by have := valK_length m h t; omega)
theorem tot_le (fs : List Fd) (n : Nat) (h : ∀ f ∈ fs, f.2.length ≤ n) : tot fs ≤ fs.length * (n + 3) := by
  induction fs with
  | nil => simp [tot]
  | cons f fs ih =>
    have h1 := h f (by simp)
    have h2 := ih fun g hg => h g (by simp [hg])
    have : tot (f :: fs) = f.2.length + 3 + tot fs := by simp [tot]
    rw [this, List.length_cons, Nat.succ_mul]
    omega
theorem fieldsK_tot (m : Msg) (h : lensK m) : tot (fieldsK m) ≤ 1000000 := by
  have h1 := tot_le (fieldsK m) 60000 (fun f hf => by
    obtain ⟨t, _, rfl⟩ := List.mem_map.1 hf
    exact valK_length m h t)
  have h2 : (fieldsK m).length ≤ 7 := by unfold fieldsK; rw [List.length_map]; exact tagsK_length _
  have h3 : (fieldsK m).length * (60000 + 3) ≤ 7 * (60000 + 3) := Nat.mul_le_mul_right _ h2
  omega
theorem okK_tags {m : Msg} (h : okK m = true) : tagsK m.kd ≠ [] := by
  unfold okK at h
  simp only [Bool.and_eq_true, decide_eq_true_eq] at h
  exact h.1

end Go.Proofs.YtnfmbgmncdodkaaDoor
namespace Go.Proofs.YtnfmbgmncdodkaaDoor
open Go.RowKit

theorem apart_of {wr : World} {v : Value} {fs : List Fd} {base B h0 : Nat} {V : Option Addr} {L : List UInt8} (hown : OwnR wr base v fs) (ap : ∀ a, V = some a → L = [] ∨ a.block < B ∨ wr.heap.size ≤ a.block) (hB : B ≤ h0) (hb : h0 ≤ base) : ∀ a, V = some a → L = [] ∨ v.ownBlock ≠ some a.block := by
  refine fun a ha => (ap a ha).imp id fun h => ?_
  intro he
  have h1 := hown.lt _ he
  omega
set_option maxRecDepth 10000 in
set_option maxHeartbeats 2000000 in
theorem kwrite_any (m : Msg) (T : Option Addr) (tc : Nat) (S : Option Addr) (sc B : Nat) (w : World) (hM : ML w) (h : KM w B m T tc S sc) (hB : B ≤ w.heap.size) (hno : m.no < 18446744073709551616) (hl : lensK m) :
    Calls Tryd.prog 9 #[.agg (kcells m T tc S sc).toArray] w fun e w' => Wrote w (okK m) (bytesK m) e w' := by
  have HM := Lib.hid hM
  have HK := Lib.hid h
  have HB := Lib.hid hB
  have HNO := Lib.hid hno
  have HL := Lib.hid hl
  have HC := Lib.hid (show m.c.size ≤ 1000000 by have := hl.1; omega)
  have HS := Lib.hid (show m.s.size ≤ 1000000 by have := hl.2.1; omega)
  have B0 := Lib.hid (CB.new w 26 (kcells m T tc S sc))
  have G0 := Lib.hid (grown_alloc w (.cells (kcells m T tc S sc).toArray 26) none)
  obtain ⟨ok, hok⟩ : ∃ b, okK m = b := ⟨_, rfl⟩
  have HOK := Lib.hid hok
  rw [hok]
  have TK0 := Lib.hid True.intro
  cases ok with
  | false =>
    clear hM h hB hno hl hok
    go_enter Tryd.func9, Tryd.ntmps9
    go_wp2_with (first
      | refine wpList_loadC (off := 0) (p := kcells m T tc S sc) aggKm rfl (.tmp 1) rfl B0.out rfl (by rw [kcells_length]; omega) (by first | rfl | go_simp) ?_
      | (go_at_call 28; refine (check_k m T tc S sc B _ (HM.out.below (below_of_none G0.out)) (HK.out.kept G0.out HB.out) (Nat.le_trans HB.out G0.out.size) HNO.out HC.out HS.out).mono ?_; rw [HOK.out, if_neg (by simp)]; rintro e w1 ⟨rfl, g⟩; have G1 := Lib.hid (grown_trans' G0.out g); clear g))
    go_ret2
    exact Wrote.no rfl G1.out
  | true =>
    obtain ⟨ks, hks⟩ : ∃ ks, tagsK m.kd = ks := ⟨_, rfl⟩
    have HKS := Lib.hid hks
    obtain ⟨n, hn⟩ : ∃ n, ks.length = n := ⟨_, rfl⟩
    have HN := Lib.hid hn
    have HN7 := Lib.hid (show n ≤ 7 by rw [← hn, ← hks]; exact tagsK_length _)
    have HNP := Lib.hid (show 0 < n by rw [← hn, ← hks]; exact List.length_pos_iff.2 (okK_tags hok))
    obtain ⟨FS, hfs⟩ : ∃ F, fieldsK m = F := ⟨_, rfl⟩
    have HFS := Lib.hid hfs
    have HFL := Lib.hid (show FS.length = n by rw [← hfs, fieldsK, List.length_map, hks, hn])
    have HFA := Lib.hid (show ∀ k t, ks[k]? = some t → FS[k]? = some (t, valK m t) from fun k t ht => by rw [← hfs, fieldsK, List.getElem?_map, hks, ht]; rfl)
    have HTI := Lib.hid (show ∀ t ∈ ks, 31 ≤ t ∧ t ≤ 39 from fun t ht => tagsK_in m.kd t (by rw [hks]; exact ht))
    have HJ := Lib.hid (show joinOf FS [] = (bytesK m, 0) by rw [← hfs]; exact joinOf_ok _ [] (fieldsK_chk m hl))
    have HTOT := Lib.hid (show tot FS ≤ 1000000 by rw [← hfs]; exact fieldsK_tot m hl)
    have HTR := Lib.hid (show ∀ f ∈ FS, -9223372036854775808 ≤ f.1 ∧ f.1 ≤ 9223372036854775807 from fun f hf => by
      rw [← hfs] at hf
      obtain ⟨t, ht, rfl⟩ := List.mem_map.1 hf
      have := tagsK_in _ _ ht
      simp only
      omega)
    clear hM h hB hno hl hok hks hn hfs
    go_enter Tryd.func9, Tryd.ntmps9
    go_wp2_with (first
      | refine wpList_loadC (off := 0) (p := kcells m T tc S sc) aggKm rfl (.tmp 1) rfl B0.out rfl (by rw [kcells_length]; omega) (by first | rfl | go_simp) ?_
      | (go_at_call 28; refine (check_k m T tc S sc B _ (HM.out.below (below_of_none G0.out)) (HK.out.kept G0.out HB.out) (Nat.le_trans HB.out G0.out.size) HNO.out HC.out HS.out).mono ?_; rw [HOK.out, if_pos rfl]; rintro e w1 ⟨rfl, g⟩; have G1 := Lib.hid (grown_trans' G0.out g); have B1 := Lib.hid (B0.out.kept g); have q1 := B1.out.at_ (i := 0) (v := .int .i64 m.kd) rfl; clear g)
      | (go_at_call 29; refine (tagsOf_any m.kd _).mono ?_; rintro e w2 ⟨v, rfl, hi, g⟩; rw [HKS.out] at hi; obtain ⟨A, c, rfl, hr⟩ := hi; rw [HN.out]; have G2 := Lib.hid (grown_trans' G1.out g); have B2 := Lib.hid (B1.out.kept g); have R2 := Lib.hid hr; clear g hr q1))
    obtain ⟨b, off, hA, hbk, hcell⟩ := R2.out.open_ (by rw [HN.out]; exact HNP.out)
    subst hA
    have HBK := Lib.hid hbk
    have HCE := Lib.hid hcell
    clear hbk hcell
    go_loopw [5, 17] (fun v i wr => ∃ k : Nat, i = .int .i64 k ∧ k ≤ n ∧ OwnR wr w2.heap.size v (FS.take k) ∧ w2.grownBy wr none) (fun _ i _ => n - (intOf i).toNat)
    case atStart => exact ⟨0, rfl, Nat.zero_le _, OwnR.nil_ _ _, World.grownBy.refl _ _⟩
    case round =>
      obtain ⟨k, rfl, hk, hown, hg⟩ := hrel
      have HOWN := Lib.hid hown
      have GR := Lib.hid hg
      have BR := Lib.hid (B2.out.kept hg)
      have G3 := Lib.hid (grown_trans' G2.out hg)
      have SR := Lib.hid hg.size
      clear hown hg
      by_cases hlt : k < n
      · have hlti : (k : Int) < (n : Int) := by omega
        have hn7 : (n : Int) ≤ 7 := by have := HN7.out; omega
        have hkl : k < ks.length := by rw [HN.out]; exact hlt
        obtain ⟨tg, htg⟩ : ∃ t, ks[k] = t := ⟨_, rfl⟩
        have hat : ks[k]? = some tg := by rw [List.getElem?_eq_getElem hkl, htg]
        have HTG := Lib.hid (HTI.out tg (by rw [← htg]; exact List.getElem_mem hkl))
        obtain ⟨L, hL⟩ : ∃ L, valK m tg = L := ⟨_, rfl⟩
        have HLL := Lib.hid hL
        obtain ⟨nl, hnl⟩ : ∃ n, L.length = n := ⟨_, rfl⟩
        have HNL := Lib.hid hnl
        have HTK := Lib.hid (show FS.take (k + 1) = FS.take k ++ [(tg, L)] by
          have h1 := HFA.out k tg hat
          rw [hL] at h1
          rw [List.take_add_one, h1]
          rfl)
        have hq : wr.cell? ⟨b, off + k, none⟩ = some (.int .i64 tg) := by
          rw [(below_of_none GR.out).cell (p := ⟨b, off + k, none⟩) HBK.out, HCE.out k hkl, htg]
        have HLEN := Lib.hid (show (FS.take k).length ≤ 1000000 by rw [List.length_take]; have := HN7.out; omega)
        clear htg hat hL hnl hkl
        go_wp2_with (first
          | refine wpList_loadC (off := 0) (p := kcells m T tc S sc) aggKm rfl (.tmp 1) rfl BR.out rfl (by rw [kcells_length]; omega) (by first | rfl | go_simp) ?_
          | (go_at_call 30; refine (valueOf_any tg HTG.out.1 HTG.out.2 m T tc S sc B _ (HK.out.kept G3.out HB.out) (Nat.le_trans HB.out G3.out.size) HNO.out (by have := HC.out; omega) (by have := HS.out; omega)).mono ?_; rw [HLL.out]; rintro e w3 ⟨V, vc, rfl, r, ap, g⟩; rw [HNL.out]; have RV := Lib.hid r; have AP := Lib.hid ap; have GV := Lib.hid g; have OV := Lib.hid (HOWN.out.kept g); have SV := Lib.hid (Nat.le_trans SR.out g.size); have AP2 := Lib.hid (apart_of HOWN.out ap HB.out G2.out.size); clear r ap g)
          | (at_builtin; refine wpList_appLit fieldT rfl (.tmp 21) (.tmp 27) rfl HNL.out OV.out RV.out AP2.out rfl (by first | rfl | go_simp) HLEN.out SV.out ?_; intro v4 w4 o4 g4; have hne := OV.out.lt; have O4 := Lib.hid o4; have G4 := Lib.hid (grownR (grown_trans' (grown_trans' GR.out GV.out) (grown_alloc w3 _ none)) g4 (fun x hx => (hne x hx).1)); clear o4 g4 hne))
        go_roundw
        case rel => exact ⟨k + 1, by go_num, by omega, by rw [HTK.out]; exact O4.out, G4.out⟩
        case measure => first | (simp [intOf]; done) | (simp [intOf]; omega)
      · obtain rfl : k = n := by omega
        have HALL := Lib.hid (show FS.take k = FS from List.take_of_length_le (by rw [HFL.out]; exact Nat.le_refl _))
        rw [HALL.out] at HOWN
        obtain ⟨FA, fc, rfl, rf⟩ := HOWN.out.shape
        have RFF := Lib.hid rf
        rw [HFL.out]
        clear rf hk hlt
        go_wp2_with (go_at_call 31; have hj := join_any FA FS fc _ RFF.out HTR.out (by have := HTOT.out; omega); rw [HFL.out] at hj; refine hj.mono ?_; rw [HJ.out]; rintro e w5 ⟨v5, rfl, o5, b5⟩; have O5 := Lib.hid o5.isB; have G5 := Lib.hid (grown_trans' G3.out (none_of_below b5 (Nat.le_refl _))); clear o5 b5 hj)
        go_ret2
        exact Wrote.yes O5.out G5.out
end Go.Proofs.YtnfmbgmncdodkaaDoor
