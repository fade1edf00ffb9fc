/- The walk of New. -/
import Derived.Test.YtbpkaaajcimcgabExp
namespace Go.Proofs.Ytbpkaaajcimcgab
open Go.RowKit

theorem built_any : Try.prog.built 43 [(0, .agg (bcells subT).toArray)] = some (bcells (subT ++ zeros 176)).toArray := by kernel_rfl
theorem wpList_buildC {ops : Array Oper} {rest : List Oper} {o : Oper} {a : Act} {w : World} {Q : Exit → Act → World → Prop} (hg : o.guard = none) (x : Operand) (ho : o.op = .build 43 #[(0, x)])
    (hx : a.eval x = .agg (bcells subT).toArray) (h : wpList Try.prog ops Q rest (a.put o.dst (.agg (bcells (subT ++ zeros 176)).toArray)) w) : wpList Try.prog ops Q (o :: rest) a w := by
  refine wpList_build hg 43 #[(0, x)] ho ?_ ?_
  · simp only [List.map_toArray, List.map_cons, List.map_nil, hx, built_any, Option.isSome_some]
  · simp only [List.map_toArray, List.map_cons, List.map_nil, hx, built_any, Option.getD_some]
    exact h

set_option maxHeartbeats 1000000 in
theorem new_any (key : List UInt8) (hk : key.length = 16) (w : World) :
    Calls Try.prog 9 #[.agg (bcells key).toArray] w fun e w' => ∃ g, e = .returned (.pointer (some ⟨g, 0, none⟩)) ∧ BB w' g 43 (keyed key) ∧ Below w.heap.size w w' ∧ w.heap.size ≤ g := by
  have arrK : ArrT Try.prog 23 5 16 := ⟨Try.underlying23, by kernel_rfl⟩
  have HB0 := Lib.hid (BB.new w 23 key)
  have HKL := Lib.hid hk
  clear hk
  go_enter Try.func9, Try.ntmps9
  go_wp2_with (first
    | (go_at_call 15; refine (substitutes_any _).mono ?_; rintro e w1 ⟨rfl, hb1⟩; have HB1 := Lib.hid (((Below.refl _ _).alloc (Nat.le_refl _) _).trans (hb1.mono (by simp))); have HK1 := Lib.hid (HB0.out.below hb1 (by simp)); clear hb1)
    | refine wpList_buildC rfl (.tmp 4) rfl rfl ?_
    | refine wpList_loadB arrK rfl (.tmp 1) rfl (HK1.out.alloc _) HKL.out rfl ?_
    | (go_at_call 16; refine (expand_any w1.heap.size key _ (BB.new w1 _ _) HKL.out).mono ?_; rintro e w2 ⟨rfl, hb2, hg2⟩))
  have hs1 := HB1.out.size
  go_ret
  exact ⟨_, rfl, hb2, (HB1.out.alloc hs1 _).trans (below_of_grown hg2 hs1 (by simp; omega)), hs1⟩
end Go.Proofs.Ytbpkaaajcimcgab
