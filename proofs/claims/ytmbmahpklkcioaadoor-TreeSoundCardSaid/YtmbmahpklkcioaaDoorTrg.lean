/- What a map holds, looked up; a node; may. -/
import Derived.Test.YtmbmahpklkcioaaDoorTrf
import Derived.Test.YtmbmahpklkcioaaDoorMpt
namespace Go.Proofs.YtmbmahpklkcioaaDoor
open Go.RowKit Go.Maps

section
variable {P : Program} {k : TypeId} {α β : Type} {kv : α → Value} {vv : β → Value} {M : List (α × β)} {w : World} {ops : Array Oper} {rest : List Oper} {o : Oper} {a : Act} {Q : Exit → Act → World → Prop} {b : Nat} {t e : TypeId}
/-- 'm[k]', the key is there. -/
theorem wpList_look1In (K : Keyed P k) (hi : ∀ a b : α, kv a = kv b → a = b) (hg : o.guard = none) (m x : Operand) (hop : o.op = Op.lookup t m x false) (ht : P.underlying t = some (.map k e)) {z : Value} (hz : ∀ w, (zeroValue e).run P w = .ok z w)
    (h : MT P k kv vv w b M) (hm : a.eval m = .map (some b)) (ky : α) (v : β) (hx : a.eval x = kv ky) (hin : (ky, v) ∈ M)
    (hK : wpList P ops Q rest (a.put o.dst (vv v)) w) : wpList P ops Q (o :: rest) a w := by
  have hok : OkK P k kv ky := h.1.2 ky (mem_keysM.2 ⟨v, hin⟩)
  refine wpList_plain hg fun K' hK' => ?_
  obtain ⟨u, ps, hrun, hv⟩ := h.2.lookup K ht (hz w) (zd := .held z) (zp := []) rfl hok
  rw [at_datM K hi h.1 hin] at hv
  unfold RV at hv
  simp at hv
  rw [hv.1] at hrun
  unfold Oper.wp
  simp [execOp, hop, hm, hx, hrun, Result.andThen]
  exact hK' _ _ hK
variable [DecidableEq α]
/-- 'm[k]', the key isn't there. -/
theorem wpList_look1Out (K : Keyed P k) (hi : ∀ a b : α, kv a = kv b → a = b) (hg : o.guard = none) (m x : Operand) (hop : o.op = Op.lookup t m x false) (ht : P.underlying t = some (.map k e)) {z : Value} (hz : ∀ w, (zeroValue e).run P w = .ok z w)
    (h : MT P k kv vv w b M) (hm : a.eval m = .map (some b)) (ky : α) (hok : OkK P k kv ky) (hx : a.eval x = kv ky) (hout : ky ∉ keysM M)
    (hK : wpList P ops Q rest (a.put o.dst z) w) : wpList P ops Q (o :: rest) a w := by
  have hh : Maps.has (datM P k kv vv M) (litOf P k kv ky) = false := by rw [has_datM K hi h.1 hok]; exact decide_eq_false hout
  refine wpList_plain hg fun K' hK' => ?_
  obtain ⟨v, ps, hrun, hv⟩ := h.2.lookup K ht (hz w) (zd := .held z) (zp := []) rfl hok
  rw [Maps.atKey_of_not_has hh] at hv
  unfold RV at hv
  simp at hv
  rw [hv.1] at hrun
  unfold Oper.wp
  simp [execOp, hop, hm, hx, hrun, Result.andThen]
  exact hK' _ _ hK
end

/-- The cells of a node. -/
def nodeC (path : ByteArray) (dir : Bool) (owner : ByteArray) (mode : Nat) (data : Value) : List Value := [.string path, .bool dir, .string owner, .int .i64 mode, data]
def rootB : ByteArray := ⟨#[114, 111, 111, 116]⟩
def mayOk (who : ByteArray) (bit : Nat) (owner : ByteArray) (mode : Nat) : Bool := decide (who = rootB) || (mode &&& (if who = owner then bit * 8 else bit)) != 0
theorem ne_cast (n : Nat) : ((n : Int) != 0) = (n != 0) := by rw [Bool.eq_iff_iff, bne_iff_ne, bne_iff_ne]; omega
theorem and_bits : ∀ m : Fin 64, ∀ b ∈ [1, 2, 4, 8, 16, 32], bits .and .i64 ((m.val : Nat) : Int) ((b : Nat) : Int) = ((m.val &&& b : Nat) : Int) := by decide +kernel
theorem and_bit {m b : Nat} (hm : m < 64) (hb : b ∈ [1, 2, 4, 8, 16, 32]) : bits .and .i64 (m : Int) (b : Int) = ((m &&& b : Nat) : Int) := and_bits ⟨m, hm⟩ b hb
set_option maxHeartbeats 1000000 in
theorem may_any (w : World) (who : ByteArray) (bit g : Nat) (path owner : ByteArray) (dir : Bool) (mode : Nat) (data : Value) (hC : CB w g 42 (nodeC path dir owner mode data)) (hm : mode < 64) (hb : bit = 1 ∨ bit = 2 ∨ bit = 4) :
    Calls Tryd.prog 24 #[.string who, .int .i64 bit, .pointer (some ⟨g, 0, none⟩)] w fun e w' => e = .returned (.bool (mayOk who bit owner mode)) ∧ w' = w := by
  by_cases h1 : who = rootB
  · subst h1
    rw [show mayOk rootB bit owner mode = true from by simp [mayOk]]
    clear hC
    simp only [rootB]
    go_enter Tryd.func24, Tryd.ntmps24
    go_wp2
    go_ret
    exact ⟨rfl, rfl⟩
  · have n1 := str_ne h1
    have n1' : (who.toList == [114, 111, 111, 116]) = false := by rw [show ([114, 111, 111, 116] : List UInt8) = rootB.toList from by rw [ByteArray.toList_eq]; rfl]; exact n1
    clear n1
    have ho : w.cell? ⟨g, 2, none⟩ = some (.string owner) := hC.at_ rfl
    have hmo : w.cell? ⟨g, 3, none⟩ = some (.int .i64 mode) := hC.at_ rfl
    by_cases h2 : who = owner
    · have hA : (bits .and .i64 (mode : Int) ((bit : Int) * 8) != 0) = mayOk who bit owner mode := by
        have := and_bit hm (show bit * 8 ∈ [1, 2, 4, 8, 16, 32] by rcases hb with rfl | rfl | rfl <;> decide)
        rw [show ((bit : Int) * 8) = ((bit * 8 : Nat) : Int) by push_cast; rfl, this, mayOk, decide_eq_false h1, if_pos h2, Bool.false_or]
        exact ne_cast _
      have HA := Lib.hid hA
      clear hA
      subst h2
      go_enter Tryd.func24, Tryd.ntmps24
      go_wp2
      go_ret
      exact ⟨by rw [← HA.out]; rfl, rfl⟩
    · have n2 := str_ne h2
      have hA : (bits .and .i64 (mode : Int) (bit : Int) != 0) = mayOk who bit owner mode := by
        have := and_bit hm (show bit ∈ [1, 2, 4, 8, 16, 32] by rcases hb with rfl | rfl | rfl <;> decide)
        rw [this, mayOk, decide_eq_false h1, if_neg h2, Bool.false_or]
        exact ne_cast _
      have HA := Lib.hid hA
      clear hA
      go_enter Tryd.func24, Tryd.ntmps24
      go_wp2
      go_ret
      exact ⟨by rw [← HA.out]; rfl, rfl⟩
end Go.Proofs.YtmbmahpklkcioaaDoor
