/- ahead: the directories on the way to a path. -/
import Derived.Test.YtlkchajkhplapaaGreatDoorTre
import Derived.Test.YtlkchajkhplapaaGreatDoorMpt
import Derived.Maps.OwnIn
namespace Go.Proofs.YtlkchajkhplapaaGreatDoor
open Go.RowKit Go.Shelf
attribute [local go_sem] Oper.semAt_some

/-- The directories on the way, as far as the loop has come: behind the top, those that end at places up to k. -/
def dirs (l : List UInt8) : Nat → List (List UInt8)
  | 0 => [[47]]
  | k + 1 => dirs l k ++ (if l[k + 1]? = some 47 then [l.take (k + 1)] else [])
def aheads (l : List UInt8) : List (List UInt8) := if l = [47] then [] else dirs l (l.length - 1)
theorem dirs_mono (l : List UInt8) (k : Nat) : ∀ d, dirs l k <+: dirs l (k + d)
  | 0 => List.prefix_refl _
  | d + 1 => (dirs_mono l k d).trans (List.prefix_append _ _)
theorem dirs_le (l : List UInt8) {k m : Nat} (h : k ≤ m) : dirs l k <+: dirs l m := by
  obtain ⟨d, rfl⟩ : ∃ d, m = k + d := ⟨m - k, by omega⟩
  exact dirs_mono l k d

set_option maxRecDepth 100000 in
set_option maxHeartbeats 2000000 in
theorem ahead1_any (n l b : Nat) (s : ByteArray) (p : List UInt8) (hp : s.data.toList = p) (hs : p.length ≤ 1000000) (hne : 0 < p.length) (hn : 1 ≤ n) (J Jx : List (List UInt8) → World → Prop)
    (hY : ∀ pre (x : ByteArray) W, J pre W → W.heap[b]? = some (.cells #[.string s] 9 (0, 0)) → x.size ≤ p.length → YieldAt Fence.wide (n - 1) Tryz.prog l #[.string x] W fun e W' =>
      (e = .returned (.bool true) ∧ J (pre ++ [x.data.toList]) W' ∧ W'.heap[b]? = some (.cells #[.string s] 9 (0, 0))) ∨ (e = .returned (.bool false) ∧ Jx (pre ++ [x.data.toList]) W'))
    (W : World) (hC : W.heap[b]? = some (.cells #[.string s] 9 (0, 0))) (h0 : J [] W) :
    CallsIn Fence.wide n Tryz.prog 103 #[.func (.yield l) #[] #[], .pointer (some ⟨b, 0, none⟩)] W fun e W' => (∃ v, e = .returned v) ∧
      (J (aheads p) W' ∨ (∃ pre, pre <+: aheads p ∧ Jx pre W')) := by
  refine callsIn_of_wp Tryz.func103 rfl trivial ?_ rfl
  simp only [Tryz.ntmps103, List.size_toArray, List.length_cons, List.length_nil, Nat.reduceAdd, Nat.reduceSub, Array.replicate_succ, Array.replicate_zero, List.push_toArray, List.append_toArray, List.nil_append, List.cons_append]
  have c1 := cell_box hC
  by_cases h1 : p = [47]
  · have hb := bytes_of hp
    subst h1
    subst hb
    have HA := Lib.hid (show J (aheads [47]) W from h0)
    clear hp hs hne h0
    gi_wp2
    refine ⟨fun _ h => (by cases h), ?_⟩
    gi_wp2
    refine bodyPost_ret (results_none rfl _ _ _) rfl ?_
    exact ⟨⟨_, rfl⟩, .inl HA.out⟩
  · have n3 := str_ne (a := s) (b := ⟨#[47]⟩) (fun e => h1 (by rw [← hp, e]))
    have n3' : (s.toList == [47]) = false := by rw [show ([47] : List UInt8) = (⟨#[47]⟩ : ByteArray).toList from by rw [ByteArray.toList_eq]]; exact n3
    clear n3
    have HX := Lib.hid (show aheads p = dirs p (p.length - 1) by rw [aheads, if_neg h1])
    obtain ⟨fn, tmps, assign, body, hy, hR⟩ := hY [] ⟨#[47]⟩ W h0 hC (show 1 ≤ p.length from hne)
    have HP := Lib.hid hp
    have HY := Lib.hid hY
    have hz : s.size = p.length := by rw [← hp]; rfl
    have HZ := Lib.hid hz
    clear hp hY h0 hC hz h1
    gi_wp2
    refine hR.mono ?_
    clear hy hR c1
    rintro e W3 (⟨rfl, hJ3, hC3⟩ | ⟨rfl, hJ3⟩)
    · have c3 := cell_box hC3
      have HJ3 := Lib.hid (show J (dirs p 0) W3 from hJ3)
      have HC3 := Lib.hid hC3
      clear hJ3 hC3
      gi_wp2
      gi_loopw [3] (fun v wr => ∃ k : Nat, v = .int .i64 ((k : Int) + 1) ∧ k + 1 ≤ p.length ∧ wr.heap[b]? = some (.cells #[.string s] 9 (0, 0)) ∧ J (dirs p k) wr) (fun v _ => p.length - (intOf v).toNat)
      case atStart => exact ⟨0, rfl, hne, HC3.out, HJ3.out⟩
      case round =>
        clear c3
        obtain ⟨k, rfl, hk, hC, hJ⟩ := hrel
        have c3 := cell_box hC
        by_cases hlt : k + 1 < p.length
        · have hki : (k : Int) + 1 < (s.size : Int) := by have := HZ.out; omega
          have hg : s[k + 1]'(by have := HZ.out; omega) = p[k + 1] := by have := HP.out; subst this; simp [ByteArray.getElem_eq_getElem_data]
          have hex : (s.extract 0 (k + 1)).data.toList = p.take (k + 1) := by rw [ext_data s _ HP.out, List.drop_zero]
          obtain ⟨c, hc⟩ : ∃ c, c = p[k + 1] := ⟨_, rfl⟩
          rw [← hc] at hg
          by_cases he : c = 47
          · have HD := Lib.hid (show dirs p (k + 1) = dirs p k ++ [(s.extract 0 (k + 1)).data.toList] by
              rw [dirs, hex, if_pos (by rw [List.getElem?_eq_getElem hlt, ← hc, he])])
            obtain ⟨fn, tmps, assign, body, hy, hR⟩ := HY.out (dirs p k) (s.extract 0 (k + 1)) wr hJ hC (by rw [ByteArray.size_extract]; omega)
            subst he
            clear hc hex
            gi_wp2
            refine hR.mono ?_
            clear hy hR c3
            rintro e W5 (⟨rfl, hJ5, hC5⟩ | ⟨rfl, hJ5⟩)
            · gi_wp2
              go_roundw
              case rel => exact ⟨k + 1, by go_num, by omega, hC5, by rw [HD.out]; exact hJ5⟩
              case measure => simp [intOf]; omega
            · gi_wp2
              refine bodyPost_ret (results_none rfl _ _ _) rfl ?_
              exact ⟨⟨_, rfl⟩, .inr ⟨_, by rw [HX.out, ← HD.out]; exact dirs_le p (by omega), hJ5⟩⟩
          · have HD := Lib.hid (show dirs p (k + 1) = dirs p k by
              rw [dirs, if_neg (by rw [List.getElem?_eq_getElem hlt, ← hc]; exact fun e => he (Option.some.inj e)), List.append_nil])
            have hcq : ((c.toNat : Int) == 47) = false := beq_eq_false_iff_ne.2 (fun e => he (UInt8.toNat.inj (by show c.toNat = 47; omega)))
            have hcn : ¬ (c.toNat : Int) = 47 := fun e => he (UInt8.toNat.inj (by show c.toNat = 47; omega))
            have HJ := Lib.hid hJ
            clear hc hex hJ he
            gi_wp2
            refine ⟨fun _ h => (by cases h), ?_⟩
            gi_wp2
            go_roundw
            case rel => exact ⟨k + 1, by go_num, by omega, hC, by rw [HD.out]; exact HJ.out⟩
            case measure => simp [intOf]; omega
        · have hki : ¬ (k : Int) + 1 < (s.size : Int) := by have := HZ.out; omega
          have HJ := Lib.hid (show J (aheads p) wr by rw [HX.out, show p.length - 1 = k by omega]; exact hJ)
          clear hJ
          gi_wp2
          go_end0
          exact ⟨⟨_, rfl⟩, .inl HJ.out⟩
    · gi_wp2
      refine bodyPost_ret (results_none rfl _ _ _) rfl ?_
      exact ⟨⟨_, rfl⟩, .inr ⟨_, by rw [HX.out]; exact dirs_le p (Nat.zero_le _), hJ3⟩⟩
/-- ahead: the path is boxed. -/
theorem ahead_any (w : World) (s : ByteArray) :
    Calls Tryz.prog 83 #[.string s] w fun e w' => e = .returned (.func (.func 103) #[] #[.pointer (some ⟨w.heap.size, 0, none⟩)]) ∧ w' = w.alloc (.cells #[.string s] 9) := by
  go_enter Tryz.func83, Tryz.ntmps83
  go_wp2
  go_ret
  exact ⟨rfl, rfl⟩
end Go.Proofs.YtlkchajkhplapaaGreatDoor
namespace Go.Proofs.YtlkchajkhplapaaGreatDoor
open Go.RowKit Go.Maps

section
variable {P : Program} {k : TypeId} {α β : Type} {kv : α → Value} {vv : β → Value} {M : List (α × β)} {w : World} {ops : Array Oper} {rest : List Oper} {o : Oper} {a : Act} {Q : Exit → Act → World → Prop} {b : Nat} {t e : TypeId}
/-- 'm[k]', the key is there. -/
theorem wpList_look1In (K : Keyed P k) (hi : ∀ a b : α, kv a = kv b → a = b) (hg : o.guard = none) (m x : Operand) (hop : o.op = Op.lookup t m x false) (ht : P.underlying t = some (.map k e)) {z : Value} (hz : ∀ w, (zeroValue e).run P w = .ok z w)
    (h : MT P k kv vv w b M) (hm : a.eval m = .map (some b)) (ky : α) (v : β) (hx : a.eval x = kv ky) (hin : (ky, v) ∈ M)
    (hK : wpList P ops Q rest (a.put o.dst (vv v)) w) : wpList P ops Q (o :: rest) a w := by
  have hok : OkK P k kv ky := h.1.2 ky (mem_keysM.2 ⟨v, hin⟩)
  refine wpList_plain hg fun K' hK' => ?_
  obtain ⟨u, ps, hrun, hv⟩ := h.2.lookup K ht (hz w) (zd := .held z) (zp := []) rfl hok
  rw [at_datM K hi h.1 hin] at hv
  unfold RV at hv
  simp at hv
  rw [hv.1] at hrun
  unfold Oper.wp
  simp [execOp, hop, hm, hx, hrun, Result.andThen]
  exact hK' _ _ hK
variable [DecidableEq α]
/-- 'm[k]', the key isn't there. -/
theorem wpList_look1Out (K : Keyed P k) (hi : ∀ a b : α, kv a = kv b → a = b) (hg : o.guard = none) (m x : Operand) (hop : o.op = Op.lookup t m x false) (ht : P.underlying t = some (.map k e)) {z : Value} (hz : ∀ w, (zeroValue e).run P w = .ok z w)
    (h : MT P k kv vv w b M) (hm : a.eval m = .map (some b)) (ky : α) (hok : OkK P k kv ky) (hx : a.eval x = kv ky) (hout : ky ∉ keysM M)
    (hK : wpList P ops Q rest (a.put o.dst z) w) : wpList P ops Q (o :: rest) a w := by
  have hh : Maps.has (datM P k kv vv M) (litOf P k kv ky) = false := by rw [has_datM K hi h.1 hok]; exact decide_eq_false hout
  refine wpList_plain hg fun K' hK' => ?_
  obtain ⟨v, ps, hrun, hv⟩ := h.2.lookup K ht (hz w) (zd := .held z) (zp := []) rfl hok
  rw [Maps.atKey_of_not_has hh] at hv
  unfold RV at hv
  simp at hv
  rw [hv.1] at hrun
  unfold Oper.wp
  simp [execOp, hop, hm, hx, hrun, Result.andThen]
  exact hK' _ _ hK
end

/-- The cells of a node. -/
def nodeC (path : ByteArray) (dir : Bool) (owner : ByteArray) (mode : Nat) (data : Value) : List Value := [.string path, .bool dir, .string owner, .int .i64 mode, data]
def rootB : ByteArray := ⟨#[114, 111, 111, 116]⟩
def mayOk (who : ByteArray) (bit : Nat) (owner : ByteArray) (mode : Nat) : Bool := decide (who = rootB) || (mode &&& (if who = owner then bit * 8 else bit)) != 0
theorem ne_cast (n : Nat) : ((n : Int) != 0) = (n != 0) := by rw [Bool.eq_iff_iff, bne_iff_ne, bne_iff_ne]; omega
theorem and_bits : ∀ m : Fin 64, ∀ b ∈ [1, 2, 4, 8, 16, 32], bits .and .i64 ((m.val : Nat) : Int) ((b : Nat) : Int) = ((m.val &&& b : Nat) : Int) := by decide +kernel
theorem and_bit {m b : Nat} (hm : m < 64) (hb : b ∈ [1, 2, 4, 8, 16, 32]) : bits .and .i64 (m : Int) (b : Int) = ((m &&& b : Nat) : Int) := and_bits ⟨m, hm⟩ b hb
set_option maxHeartbeats 1000000 in
theorem may_any (w : World) (who : ByteArray) (bit g : Nat) (path owner : ByteArray) (dir : Bool) (mode : Nat) (data : Value) (hC : CB w g 63 (nodeC path dir owner mode data)) (hm : mode < 64) (hb : bit = 1 ∨ bit = 2 ∨ bit = 4) :
    Calls Tryz.prog 63 #[.string who, .int .i64 bit, .pointer (some ⟨g, 0, none⟩)] w fun e w' => e = .returned (.bool (mayOk who bit owner mode)) ∧ w' = w := by
  by_cases h1 : who = rootB
  · subst h1
    rw [show mayOk rootB bit owner mode = true from by simp [mayOk]]
    clear hC
    simp only [rootB]
    go_enter Tryz.func63, Tryz.ntmps63
    go_wp2
    go_ret
    exact ⟨rfl, rfl⟩
  · have n1 := str_ne h1
    have n1' : (who.toList == [114, 111, 111, 116]) = false := by rw [show ([114, 111, 111, 116] : List UInt8) = rootB.toList from by rw [ByteArray.toList_eq]; rfl]; exact n1
    clear n1
    have ho : w.cell? ⟨g, 2, none⟩ = some (.string owner) := hC.at_ rfl
    have hmo : w.cell? ⟨g, 3, none⟩ = some (.int .i64 mode) := hC.at_ rfl
    by_cases h2 : who = owner
    · have hA : (bits .and .i64 (mode : Int) ((bit : Int) * 8) != 0) = mayOk who bit owner mode := by
        have := and_bit hm (show bit * 8 ∈ [1, 2, 4, 8, 16, 32] by rcases hb with rfl | rfl | rfl <;> decide)
        rw [show ((bit : Int) * 8) = ((bit * 8 : Nat) : Int) by push_cast; rfl, this, mayOk, decide_eq_false h1, if_pos h2, Bool.false_or]
        exact ne_cast _
      have HA := Lib.hid hA
      clear hA
      subst h2
      go_enter Tryz.func63, Tryz.ntmps63
      go_wp2
      go_ret
      exact ⟨by rw [← HA.out]; rfl, rfl⟩
    · have n2 := str_ne h2
      have hA : (bits .and .i64 (mode : Int) (bit : Int) != 0) = mayOk who bit owner mode := by
        have := and_bit hm (show bit ∈ [1, 2, 4, 8, 16, 32] by rcases hb with rfl | rfl | rfl <;> decide)
        rw [this, mayOk, decide_eq_false h1, if_neg h2, Bool.false_or]
        exact ne_cast _
      have HA := Lib.hid hA
      clear hA
      go_enter Tryz.func63, Tryz.ntmps63
      go_wp2
      go_ret
      exact ⟨by rw [← HA.out]; rfl, rfl⟩
end Go.Proofs.YtlkchajkhplapaaGreatDoor
namespace Go.Proofs.YtlkchajkhplapaaGreatDoor
open Go.RowKit Go.Shelf Go.Maps
attribute [local go_sem] Oper.semAt_some

section
variable {P : Program} {F : Fence} {nF : Nat} {k : TypeId} {α β : Type} {kv : α → Value} {vv : β → Value} {M : List (α × β)} {w : World} {ops : Array Oper} {rest : List Oper} {o : Oper} {a : Act} {Q : Exit → Act → World → Prop} {b : Nat} {t e : TypeId}
theorem wpListIn_look1In (K : Keyed P k) (hi : ∀ a b : α, kv a = kv b → a = b) (hg : o.guard = none) (m x : Operand) (hop : o.op = Op.lookup t m x false) (ht : P.underlying t = some (.map k e)) {z : Value} (hz : ∀ w, (zeroValue e).run P w = .ok z w)
    (h : MT P k kv vv w b M) (hm : a.eval m = .map (some b)) (ky : α) (v : β) (hx : a.eval x = kv ky) (hin : (ky, v) ∈ M)
    (hK : wpListIn F nF P ops Q rest (a.put o.dst (vv v)) w) : wpListIn F nF P ops Q (o :: rest) a w := by
  have hok : OkK P k kv ky := h.1.2 ky (mem_keysM.2 ⟨v, hin⟩)
  refine wpListIn_plain hg fun K' hK' => ?_
  obtain ⟨u, ps, hrun, hv⟩ := h.2.lookup K ht (hz w) (zd := .held z) (zp := []) rfl hok
  rw [at_datM K hi h.1 hin] at hv
  unfold RV at hv
  simp at hv
  rw [hv.1] at hrun
  unfold Oper.wpIn
  refine ⟨by simp [Oper.about, hop], ?_⟩
  rw [Oper.semAt_plain F _ _ (by rw [hop]; intro c hc'; cases hc')]
  simp [execOp, hop, hm, hx, hrun, Result.andThen]
  exact hK' _ _ hK
variable [DecidableEq α]
theorem wpListIn_look1Out (K : Keyed P k) (hi : ∀ a b : α, kv a = kv b → a = b) (hg : o.guard = none) (m x : Operand) (hop : o.op = Op.lookup t m x false) (ht : P.underlying t = some (.map k e)) {z : Value} (hz : ∀ w, (zeroValue e).run P w = .ok z w)
    (h : MT P k kv vv w b M) (hm : a.eval m = .map (some b)) (ky : α) (hok : OkK P k kv ky) (hx : a.eval x = kv ky) (hout : ky ∉ keysM M)
    (hK : wpListIn F nF P ops Q rest (a.put o.dst z) w) : wpListIn F nF P ops Q (o :: rest) a w := by
  have hh : Maps.has (datM P k kv vv M) (litOf P k kv ky) = false := by rw [has_datM K hi h.1 hok]; exact decide_eq_false hout
  refine wpListIn_plain hg fun K' hK' => ?_
  obtain ⟨v, ps, hrun, hv⟩ := h.2.lookup K ht (hz w) (zd := .held z) (zp := []) rfl hok
  rw [Maps.atKey_of_not_has hh] at hv
  unfold RV at hv
  simp at hv
  rw [hv.1] at hrun
  unfold Oper.wpIn
  refine ⟨by simp [Oper.about, hop], ?_⟩
  rw [Oper.semAt_plain F _ _ (by rw [hop]; intro c hc'; cases hc')]
  simp [execOp, hop, hm, hx, hrun, Result.andThen]
  exact hK' _ _ hK
end

/-- What the program keeps of a node: its block, and what lies there. -/
structure Nd where
  blk : Nat
  dir : Bool
  owner : ByteArray
  mode : Nat
  data : Value
def kS (p : List UInt8) : Value := .string ⟨p.toArray⟩
def vN (n : Nd) : Value := .pointer (some ⟨n.blk, 0, none⟩)
theorem kS_inj (a b : List UInt8) (h : kS a = kS b) : a = b := by
  unfold kS at h
  injection h with h
  injection h with h
  simpa using congrArg Array.toList h
/-- A Tree lies at block tb: its map at mb, its nodes in blocks of their own. -/
structure TR (w : World) (tb mb : Nat) (M : List (List UInt8 × Nd)) : Prop where
  top : w.heap[tb]? = some (.cells #[.map (some mb)] 96 (0, 0))
  map : MT Tryz.prog 9 kS vN w mb M
  nodes : ∀ p n, (p, n) ∈ M → CB w n.blk 63 (nodeC ⟨p.toArray⟩ n.dir n.owner n.mode n.data) ∧ n.mode < 64
def comeE (M : List (List UInt8 × Nd)) (who : ByteArray) : List (List UInt8) → Int
  | [] => 0
  | d :: ds => match M.lookup d with
    | none => 110
    | some n => if n.dir = false then 112 else if mayOk who 1 n.owner n.mode = false then 114 else comeE M who ds
theorem comeE_app (M : List (List UInt8 × Nd)) (who : ByteArray) (r : List (List UInt8)) : ∀ ds, comeE M who (ds ++ r) = if comeE M who ds = 0 then comeE M who r else comeE M who ds
  | [] => by simp [comeE]
  | d :: ds => by
    rw [List.cons_append, comeE, comeE]
    cases M.lookup d with
    | none => rfl
    | some n =>
      simp only
      by_cases h1 : n.dir = false
      · rw [if_pos h1, if_pos h1]; rfl
      · rw [if_neg h1, if_neg h1]
        by_cases h2 : mayOk who 1 n.owner n.mode = false
        · rw [if_pos h2, if_pos h2]; rfl
        · rw [if_neg h2, if_neg h2]; exact comeE_app M who r ds
end Go.Proofs.YtlkchajkhplapaaGreatDoor
