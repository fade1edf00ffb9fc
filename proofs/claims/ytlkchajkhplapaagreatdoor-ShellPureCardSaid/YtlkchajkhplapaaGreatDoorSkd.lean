/- What a line does. strings.Join. Commands that call the Tree. -/
import Derived.Test.YtlkchajkhplapaaGreatDoorSkb
import Derived.Lib.AppendStr
namespace Go.Proofs.YtlkchajkhplapaaGreatDoor
open Go.RowKit Go.Maps Go.WideMaps

/-- Blocks of cells stay, but those of these types. -/
structure Kp (ts : List TypeId) (w w' : World) : Prop where
  size : w.heap.size ≤ w'.heap.size
  blk : ∀ (b : Nat) (cs : Array Value) (t : TypeId) (sh : Nat × Nat), w.heap[b]? = some (Obj.cells cs t sh) → t ∉ ts → w'.heap[b]? = some (Obj.cells cs t sh)
section
variable {w w' w2 : World} {ts us : List TypeId}
theorem Kp.of (h : Chg ts w w') : Kp ts w w' := ⟨h.size, fun _ _ _ _ hb ht => h.block hb ht⟩
theorem Kp.none (h : w.grownBy w' Option.none) : Kp ts w w' := Kp.of (Chg.none h)
theorem Kp.trans (h : Kp ts w w') (k : Kp ts w' w2) : Kp ts w w2 := ⟨Nat.le_trans h.size k.size, fun _ _ _ _ hb ht => k.blk _ _ _ _ (h.blk _ _ _ _ hb ht) ht⟩
theorem Kp.more (h : Kp ts w w') (hs : ∀ t ∈ ts, t ∈ us) : Kp us w w' := ⟨h.size, fun _ _ _ _ hb ht => h.blk _ _ _ _ hb (fun e => ht (hs _ e))⟩
theorem Kp.own (h : Kp ts w w') {base : Nat} {e : TypeId} {sz n : Nat} {v : Value} {cs : List Value} (hr : w.ownsRow base e sz v n cs) (he : e ∉ ts) : w'.ownsRow base e sz v n cs := by
  obtain ⟨h1, h2 | ⟨g, cap, cur, hv, hb, hg, rest⟩⟩ := hr
  · exact ⟨h1, .inl h2⟩
  · exact ⟨h1, .inr ⟨g, cap, cur, hv, hb, h.blk _ _ _ _ hg he, rest⟩⟩
theorem Kp.ob (h : Kp ts w w') {v : Value} {l : List UInt8} (ho : OB w v l) (ht : 5 ∉ ts) : OB w' v l := by
  obtain ⟨A, cap, hv, hr, hb⟩ := ho
  refine ⟨A, cap, hv, ⟨hr.1, hr.2.1, ?_⟩, fun a ha => ?_⟩
  · rcases hr.2.2 with h0 | ⟨a, hA, hk⟩
    · exact .inl h0
    · obtain ⟨cs, sh, hh⟩ := hb a hA
      refine .inr ⟨a, hA, fun k u hu => ⟨Nat.lt_of_lt_of_le (hk k u hu).1 h.size, ?_⟩⟩
      have h2 := h.blk _ _ _ _ hh ht
      refine (World.cell?_of_block ?_).trans (hk k u hu).2
      rw [add_block, h2, hh]
  · obtain ⟨cs, sh, hh⟩ := hb a ha
    exact ⟨cs, sh, h.blk _ _ _ _ hh ht⟩
end
abbrev Tr := List (List UInt8 × Nd)
/-- What the Tree answers to a command. -/
def treeC (M : Tr) (who : ByteArray) (c : List UInt8) (xs : List (List UInt8)) : Int :=
  if c = cCat then (readR M who (xs.headD [])).2
  else if c = cLs then listR M who (xs.headD [])
  else if c = cPut then writeC M who (xs.headD []) (Lib.join xs.tail [32]).length 60
  else if c = cMkdir then mkdirC M who (xs.headD []) 61
  else if c = cRm then rmC M who (xs.headD [])
  else (chmodR M who (xs.getD 1 []) (valF (xs.headD []))).1
def loudC (c : List UInt8) : Prop := c = cPut ∨ c = cMkdir ∨ c = cRm ∨ c = cChmod
/-- What a command that calls the Tree does, where that answers no error. -/
def DidR (R0 R : Value → List UInt8 → Prop) (M : Tr) (who : ByteArray) (c : List UInt8) (xs : List (List UInt8)) (out : List UInt8) (M' : Tr) : Prop :=
  (c = cCat → ∀ n l, (readR M who (xs.headD [])).1 = some n → R0 n.data l → out = l) ∧
  (c = cPut → M.lookup (xs.headD []) = none → ∃ b v, M' = M ++ [(xs.headD [], ⟨b, false, who, 60, v⟩)] ∧ R v (Lib.join xs.tail [32])) ∧
  (loudC c → out = [])
/-- What a command does. -/
def CmdR (R0 R : Value → List UInt8 → Prop) (M : Tr) (who : ByteArray) (c : List UInt8) (xs : List (List UInt8)) (out err : List UInt8) (code : Nat) (M' : Tr) : Prop :=
  if (usageF c xs).1 = false then out = [] ∧ err = failT c 110 ∧ code = 127
  else if (usageF c xs).2 = false then out = [] ∧ err = failT c 1 ∧ code = 2
  else if c = cEcho then out = Lib.join xs [32] ++ [10] ∧ err = [] ∧ code = 0
  else if c = cWhoami then out = who.data.toList ++ [10] ∧ err = [] ∧ code = 0
  else if c = cExit then out = [] ∧ err = [] ∧ code = valF (xs.headD [])
  else if treeC M who c xs ≠ 0 then out = [] ∧ err = failT c (treeC M who c xs) ∧ code = 1
  else err = [] ∧ code = 0 ∧ DidR R0 R M who c xs out M'
theorem DidR.mono {R0 R0' R R' : Value → List UInt8 → Prop} {M : Tr} {who : ByteArray} {c : List UInt8} {xs : List (List UInt8)} {out : List UInt8} {M' : Tr} (h : DidR R0 R M who c xs out M') (h0 : ∀ v l, R0' v l → R0 v l) (hR : ∀ v l, R v l → R' v l) : DidR R0' R' M who c xs out M' := by
  refine ⟨fun hc n l hn hl => h.1 hc n l hn (h0 _ _ hl), fun hc hl => ?_, h.2.2⟩
  obtain ⟨b, v, e, hv⟩ := h.2.1 hc hl
  exact ⟨b, v, e, hR _ _ hv⟩
theorem CmdR.mono {R0 R0' R R' : Value → List UInt8 → Prop} {M : Tr} {who : ByteArray} {c : List UInt8} {xs : List (List UInt8)} {out err : List UInt8} {code : Nat} {M' : Tr} (h : CmdR R0 R M who c xs out err code M') (h0 : ∀ v l, R0' v l → R0 v l) (hR : ∀ v l, R v l → R' v l) : CmdR R0' R' M who c xs out err code M' := by
  unfold CmdR at h ⊢
  by_cases h1 : (usageF c xs).1 = false
  · rw [if_pos h1] at h ⊢; exact h
  rw [if_neg h1] at h ⊢
  by_cases h2 : (usageF c xs).2 = false
  · rw [if_pos h2] at h ⊢; exact h
  rw [if_neg h2] at h ⊢
  by_cases h3 : c = cEcho
  · rw [if_pos h3] at h ⊢; exact h
  rw [if_neg h3] at h ⊢
  by_cases h4 : c = cWhoami
  · rw [if_pos h4] at h ⊢; exact h
  rw [if_neg h4] at h ⊢
  by_cases h5 : c = cExit
  · rw [if_pos h5] at h ⊢; exact h
  rw [if_neg h5] at h ⊢
  by_cases h6 : treeC M who c xs ≠ 0
  · rw [if_pos h6] at h ⊢; exact h
  rw [if_neg h6] at h ⊢
  exact ⟨h.1, h.2.1, h.2.2.mono h0 hR⟩
/-- What a line does. -/
def LineR (R0 R : Value → List UInt8 → Prop) (M : Tr) (who : ByteArray) (line : List UInt8) (out err : List UInt8) (code : Nat) (M' : Tr) : Prop :=
  if 80 < line.length then out = [] ∧ err = [] ∧ code = 126
  else match wds (pieces1 32 line) with
  | [] => out = [] ∧ err = [] ∧ code = 0
  | c :: xs => CmdR R0 R M who c xs out err code M'
theorem LineR.mono {R0 R0' R R' : Value → List UInt8 → Prop} {M : Tr} {who : ByteArray} {line out err : List UInt8} {code : Nat} {M' : Tr} (h : LineR R0 R M who line out err code M') (h0 : ∀ v l, R0' v l → R0 v l) (hR : ∀ v l, R v l → R' v l) : LineR R0' R' M who line out err code M' := by
  unfold LineR at h ⊢
  by_cases h1 : 80 < line.length
  · rw [if_pos h1] at h ⊢; exact h
  rw [if_neg h1] at h ⊢
  cases hw : wds (pieces1 32 line) with
  | nil => rw [hw] at h; exact h
  | cons c xs => rw [hw] at h; exact CmdR.mono h h0 hR
/-- Does a line that ends so change files? -/
def loudL (line : List UInt8) (code : Nat) : Prop := code = 0 ∧ ∃ c xs, wds (pieces1 32 line) = c :: xs ∧ loudC c

/-- strings.Join, a blank between. -/
theorem join_any (w : World) (A : Option Addr) (xs : List (List UInt8)) (n cap : Nat) (hn : xs.length = n) (hr : SR w w.heap.size A 1 (xs.map fun x => [kS x]) cap) (hl : (Lib.join xs [32]).length ≤ 1000000) :
    Calls Tryz.prog 117 #[.slice A n cap, .string ⟨#[32]⟩] w fun e w' => ∃ t : ByteArray, e = .returned (.string t) ∧ t.data.toList = Lib.join xs [32] ∧ w.grownBy w' none := by
  subst hn
  cases has : xs with
  | nil =>
    refine (Any.strings_Join_none sh_lays156 sh_Builder_Extra_156 A cap ⟨#[32]⟩ w).mono ?_
    rintro e w' ⟨rfl, rfl⟩
    exact ⟨_, rfl, rfl, World.grownBy.refl _ _⟩
  | cons x ys =>
    rw [← has]
    obtain ⟨b, off, rfl, hb, -⟩ := hr.elem (k := 0) (by rw [List.length_map, has]; simp)
    have e1 : (xs.map fun x => (⟨x.toArray⟩ : ByteArray)).length = xs.length := List.length_map _
    have e2 : (xs.map fun x => (⟨x.toArray⟩ : ByteArray)).map (·.data.toList) = xs := by rw [List.map_map]; exact List.map_id' xs
    have h1 := hr.1
    have h2 := hr.2.1
    rw [List.length_map] at h1
    have h3 : xs.length ≤ 140737488355328 := by
      have h4 := hl
      rw [has, Lib.join_length] at h4
      rw [has, List.length_cons]
      simp at h4
      omega
    have H := sh_strings_Join b off cap (xs.map fun x => (⟨x.toArray⟩ : ByteArray)) ⟨#[32]⟩ w (fun j s hs => by
      rw [List.getElem?_map] at hs
      obtain ⟨y, hy, rfl⟩ := Option.map_eq_some_iff.1 hs
      have hjl := (List.getElem?_eq_some_iff.1 hy).1
      obtain ⟨b', off', hbo, -, hc⟩ := hr.elem (k := j) (by rw [List.length_map]; exact hjl)
      injection hbo with hbo
      injection hbo with hb1 ho1
      subst hb1 ho1
      have h4 := hc 0 (kS y) (by rw [List.getElem_map]; obtain ⟨_, e⟩ := List.getElem?_eq_some_iff.1 hy; rw [e]; rfl)
      rw [Nat.one_mul, Nat.add_zero] at h4
      exact h4) hb (by rw [e1]; exact h3) (by rw [e1]; exact h1) (by rw [e2]; exact Nat.le_trans hl (by decide))
    rw [e1, e2] at H
    refine H.mono ?_
    rintro e w' ⟨rfl, hbl⟩
    exact ⟨_, rfl, rfl, none_of_below hbl (Nat.le_refl _)⟩
/-- Arguments of a command. -/
structure Args (w : World) (A : Option Addr) (xs : List (List UInt8)) (n cap : Nat) : Prop where
  ty : ∀ a, A = some a → ∃ cs sh, w.heap[a.block]? = some (.cells cs 9 sh)
  sr : SR w w.heap.size A 1 (xs.map fun x => [kS x]) cap
  n : xs.length = n
  short : ∀ x ∈ xs, x.length ≤ 100
  join : (Lib.join xs [32]).length ≤ 1000 ∧ (Lib.join xs.tail [32]).length ≤ 1000
theorem Args.kp {w w' : World} {ts : List TypeId} {A : Option Addr} {xs : List (List UInt8)} {n cap : Nat} (h : Args w A xs n cap) (hk : Kp ts w w') (hs : 9 ∉ ts) : Args w' A xs n cap := by
  refine ⟨fun a ha => ?_, ?_, h.n, h.short, h.join⟩
  · obtain ⟨cs, sh, hh⟩ := h.ty a ha
    exact ⟨cs, sh, hk.blk _ _ _ _ hh hs⟩
  · obtain ⟨h1, h2, h3⟩ := h.sr
    rcases h3 with h0 | ⟨a, ha, hb, hc⟩
    · exact ⟨h1, h2, .inl h0⟩
    · obtain ⟨cs, sh, hh⟩ := h.ty a ha
      refine ⟨h1, h2, .inr ⟨a, ha, fun hp => ⟨(hb hp).1, Nat.lt_of_lt_of_le (hb hp).2 hk.size⟩, fun k c hc' j v hv => ?_⟩⟩
      refine (World.cell?_of_block ?_).trans (hc k c hc' j v hv)
      show w'.heap[a.block]? = w.heap[a.block]?
      rw [hk.blk _ _ _ _ hh hs, hh]
theorem Args.made {w w' : World} {A : Option Addr} {xs : List (List UInt8)} {n cap : Nat} (h : Args w A xs n cap) (hg : w.grownBy w' none) : Args w' A xs n cap := h.kp (ts := []) (Kp.none hg) (by simp)
theorem Args.at_ {w : World} {A : Option Addr} {xs : List (List UInt8)} {n cap : Nat} (h : Args w A xs n cap) {k : Nat} {x : List UInt8} (hx : xs[k]? = some x) : ∃ b off, A = some ⟨b, off, none⟩ ∧ b < w.heap.size ∧ w.cell? ⟨b, off + k, none⟩ = some (.string ⟨x.toArray⟩) := by
  obtain ⟨hk, e⟩ := List.getElem?_eq_some_iff.1 hx
  obtain ⟨b, off, hA, hb, hc⟩ := h.sr.elem (k := k) (by rw [List.length_map]; exact hk)
  have h4 := hc 0 (kS x) (by rw [List.getElem_map, e]; rfl)
  rw [Nat.one_mul, Nat.add_zero] at h4
  exact ⟨b, off, hA, hb, h4⟩
/-- What overFiles answers. -/
def OvR (w0 w : World) (sb tb mb : Nat) (M : Tr) (N : Nat) (who : ByteArray) (c : List UInt8) (xs : List (List UInt8)) (e : Ending) (w' : World) : Prop :=
  ∃ v out M', e = .returned (.tuple #[v, .int .i64 (treeC M who c xs)]) ∧ OB w' v out ∧ SG w0 w' sb tb mb M' N ∧ SndM M' ∧ Kp [63] w w' ∧
    (treeC M who c xs ≠ 0 ∨ ¬ loudC c → M' = M ∧ w.grownBy w' none) ∧ (treeC M who c xs = 0 → DidR (fun v l => OwnB w 0 5 v l) (fun v l => OwnB w' 0 5 v l) M who c xs out M')
end Go.Proofs.YtlkchajkhplapaaGreatDoor
namespace Go.Proofs.YtlkchajkhplapaaGreatDoor
open Go.RowKit Go.Maps Go.WideMaps

theorem strCells_eq (s : ByteArray) : Lib.strCells s = bcells s.data.toList := by
  simp [Lib.strCells, bcells]
section
variable {w : World} {ops : Array Oper} {rest : List Oper} {o : Oper} {a : Act} {Q : Exit → Act → World → Prop}
/-- 'append(out, s...)'. -/
theorem wpList_appT (hgd : o.guard = none) (x y : Operand) (ho : o.op = .call { callee := .builtin .append, args := #[x, y], argTypes := #[29, 9] })
    {base : Nat} {v : Value} {l : List UInt8} (hown : OwnB w base 5 v l) (s : ByteArray) (hx : a.eval x = v) (hy : a.eval y = .string s) (hlen : l.length + s.size ≤ 140737488355328) (hbase : base ≤ w.heap.size)
    (h : ∀ v' w', OwnB w' base 5 v' (l ++ s.data.toList) → w.grownBy w' v.ownBlock → wpList Tryz.prog ops Q rest (a.put o.dst v') w') : wpList Tryz.prog ops Q (o :: rest) a w := by
  refine wpList_plain hgd fun K hK => ?_
  obtain ⟨i, h1, h2, h3, h4⟩ := info_parts byteInfo
  obtain ⟨v', w', hrun, h5, h6, -⟩ := Lib.run_append_own_string (P := Tryz.prog) (w := w) base 29 9 o.type 5 i Tryz.underlying29 Tryz.underlying9 h1 h2 h3 h4 v l.length (bcells l) hown s (by unfold maxLen; omega) hlen hbase
  unfold Oper.wp execOp
  simp only [ho, resolve, invoke, builtin, Sem.run_bind, Sem.run_pure, Result.andThen_ok, List.map_toArray, List.map_cons, List.map_nil, hx, hy, hrun]
  refine hK _ _ (h v' w' ?_ h6)
  unfold OwnB
  have e : (l ++ s.data.toList).length = l.length + s.size := by rw [List.length_append]; rfl
  rw [e, bcells_append, ← strCells_eq]
  exact h5
end
/-- What lines answers. -/
def LnR (w : World) (e : Ending) (w' : World) : Prop := ∃ v l, e = .returned v ∧ OwnB w' w.heap.size 5 v l ∧ w.grownBy w' none
set_option maxRecDepth 10000 in
set_option maxHeartbeats 2000000 in
theorem lines_any (w : World) (A : Option Addr) (xs : List (List UInt8)) (n cap : Nat) (hn : xs.length = n) (hr : SR w w.heap.size A 1 (xs.map fun x => [kS x]) cap) (hs : ∀ x ∈ xs, x.length ≤ 1000) (hm : n ≤ 1000) :
    Calls Tryz.prog 153 #[.slice A n cap] w (LnR w) := by
  have HR := Lib.hid hr
  have HN := Lib.hid hn
  have HS := Lib.hid hs
  have HM := Lib.hid hm
  have hnl : n ≤ 9223372036854775807 := by omega
  clear hr hn hs hm
  go_enter Tryz.func153, Tryz.ntmps153
  go_wp2
  go_loopw [3, 5, 8] (fun ov _ iv wr => ∃ (k : Nat) (l : List UInt8), iv = .int .i64 k ∧ k ≤ n ∧ Hid (OwnB wr w.heap.size 5 ov l) ∧ Hid (l.length ≤ 1001 * k) ∧ Hid (w.grownBy wr none)) (fun _ _ iv _ => n - (intOf iv).toNat)
  case atStart => exact ⟨0, [], rfl, Nat.zero_le _, OwnB.nil_ _ _ _, Nat.zero_le _, World.grownBy.refl _ _⟩
  case round =>
    obtain ⟨k, l, rfl, hk, HO, HL, HG⟩ := hrel
    by_cases hlt : k < n
    · have hki : (k : Int) < (n : Int) := by omega
      have hks : k < xs.length := by rw [HN.out]; exact hlt
      obtain ⟨x, hx⟩ : ∃ x, xs[k] = x := ⟨_, rfl⟩
      obtain ⟨b, off, rfl, hb, e⟩ := HR.out.elem (k := k) (by rw [List.length_map]; exact hks)
      have hxl := HS.out x (by rw [← hx]; exact List.getElem_mem _)
      obtain ⟨s, hs⟩ : ∃ s : ByteArray, s = ⟨x.toArray⟩ := ⟨_, rfl⟩
      have c0 : wr.cell? ⟨b, off + k, none⟩ = some (.string s) := by
        have := ((below_of_none HG.out).cell (p := ⟨b, off + 1 * k + 0, none⟩) hb).trans (e 0 (kS x) (by rw [List.getElem_map, hx]; rfl))
        rwa [Nat.one_mul, Nat.add_zero, kS, ← hs] at this
      have hsz : s.size ≤ 1000 := by rw [hs]; exact hxl
      have HSZ := Lib.hid hsz
      have hM := HM.out
      clear hks hx hxl hs e hsz
      go_wp2_with (first
        | (refine wpList_appT rfl (.tmp 12) (.tmp 13) rfl HO.out s (by first | rfl | go_simp) (by first | rfl | go_simp) (by have := HL.out; have := HSZ.out; omega) HG.out.size ?_
           intro v1 w1 o1 g1
           have O1 := Lib.hid o1
           have G1 := Lib.hid (none_rowB HG.out g1 (fun g hg => (HO.out.lt g hg).1))
           clear o1 g1)
        | (at_builtin; refine wpList_appB byteT rfl (.tmp 15) (.tmp 16) rfl (O1.out.below ((Below.refl _ _).alloc (Nat.le_refl _) (.cells #[.int .u8 10] 5))) (RB.new1 w1 5 10 10 rfl (w1.heap.size + 1) (by omega)) rfl rfl (by rw [List.length_append]; simp; have := HL.out; have := HSZ.out; have : s.data.size = s.size := rfl; omega) (by rw [World.size_alloc]; have := G1.out.size; omega) ?_; intro v2 w2 o2 g2 _ _
           have O2 := Lib.hid o2
           have G2 := Lib.hid (none_rowB (grown_trans' G1.out (grown_alloc w1 (.cells #[.int .u8 10] 5) none)) g2 (fun g hg => (O1.out.lt g hg).1))
           clear o2 g2))
      go_roundw
      case rel => exact ⟨k + 1, _, by go_num, by omega, O2.out, by rw [List.length_append, List.length_append]; have := HL.out; have := HSZ.out; have : s.data.toList.length = s.size := rfl; simp only [List.length_cons, List.length_nil]; exact (show _ ≤ 1001 * (k + 1) by omega), G2.out⟩
      case measure => simp [intOf]; omega
    · have hki : ¬ (k : Int) < (n : Int) := by omega
      go_wp2
      go_ret
      exact ⟨_, _, rfl, HO.out, HG.out⟩
end Go.Proofs.YtlkchajkhplapaaGreatDoor
