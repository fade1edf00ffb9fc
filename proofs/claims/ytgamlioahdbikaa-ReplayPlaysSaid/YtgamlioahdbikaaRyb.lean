/- The small walks of replay: clones, times, New, Len, isClosed; the strike of what is old. -/
import Derived.Test.YtgamlioahdbikaaRya
import Derived.Test.YtgamlioahdbikaaRyl
import Derived.Test.YtgamlioahdbikaaShf
import Derived.Maps.Ext
import Derived.Laws.IdiomRangeMap
import Derived.Deep.LoopGhost
namespace Go.Proofs.Ytgamlioahdbikaa
open Go.RowKit Go.Maps

theorem sclone_any (s : ByteArray) (w : World) (hs : s.size ≤ 1000000) : Calls Try.prog 18 #[.string s] w fun e w' => e = .returned (.string s) ∧ Below w.heap.size w w' := by
  go_enter Try.func18, Try.ntmps18
  go_wp2_with (go_at_call 22; refine (sh_stringslite_Clone s _ (by omega)).mono ?_; rintro e w1 ⟨rfl, hb1⟩)
  go_ret
  exact ⟨rfl, hb1⟩
theorem wrap_diff {a b : Int} (ha : I64 a) (hb : I64 b) (h : b < a) : IntKind.u64.wrap (IntKind.u64.wrap a - IntKind.u64.wrap b) = a - b := by
  show (a % 18446744073709551616 - b % 18446744073709551616) % 18446744073709551616 = a - b
  obtain ⟨a1, a2⟩ := ha
  obtain ⟨b1, b2⟩ := hb
  rw [← Int.sub_emod]
  exact Int.emod_eq_of_lt (by omega) (by omega)
theorem farAbove_any (a b : Int) (w : World) (ha : I64 a) (hb : I64 b) : Calls Try.prog 15 #[.int .i64 a, .int .i64 b] w fun e w' => e = .returned (.bool (far a b)) ∧ w = w' := by
  by_cases h1 : b < a
  · have hw := wrap_diff ha hb h1
    have d1 : decide (b < a) = true := decide_eq_true h1
    rw [far, d1, Bool.true_and]
    go_enter Try.func15, Try.ntmps15
    go_wp2
    go_ret
    exact ⟨rfl, rfl⟩
  · have d1 : decide (b < a) = false := decide_eq_false h1
    rw [far, d1, Bool.false_and]
    go_enter Try.func15, Try.ntmps15
    go_wp2
    go_ret
    exact ⟨rfl, rfl⟩

def uV : Unit → Value := fun _ => .agg #[]
def setM (M : List Au) : List (Au × Unit) := M.map fun a => (a, ())
theorem keys_setM (M : List Au) : keysM (setM M) = M := by unfold keysM setM; rw [List.map_map]; exact List.map_id' M
theorem length_setM (M : List Au) : (setM M).length = M.length := List.length_map _
theorem mem_setM {M : List Au} {p : Au × Unit} : p ∈ setM M ↔ p.1 ∈ M := by
  unfold setM
  rw [List.mem_map]
  constructor
  · rintro ⟨a, ha, rfl⟩; exact ha
  · intro h; exact ⟨p.1, h, rfl⟩
theorem filter_setM (M : List Au) (f : Au → Bool) : (setM M).filter (fun p => f p.1) = setM (M.filter f) := by unfold setM; rw [List.filter_map]; rfl
theorem without_setM {M : List Au} {a : Au} (h : a ∉ M) : withoutM (setM M) a = setM M := by
  unfold withoutM
  refine List.filter_eq_self.2 fun p hp => decide_eq_true fun e => h (by rw [← e]; exact mem_setM.1 hp)
/-- A Cache lies in block c, its map in block b. -/
def CS (w : World) (c b : Nat) (s : St) : Prop :=
  CB w c 49 [.map (some b), .bool s.cl, .int .i64 s.beg] ∧ MT Try.prog 35 auV uV w b (setM s.M) ∧ c ≠ b ∧ I64 s.beg ∧ ∀ a ∈ s.M, auOk a
theorem CS.none {w w' : World} {c b : Nat} {s : St} (h : CS w c b s) (hg : w.grownBy w' none) : CS w' c b s := ⟨h.1.kept hg, h.2.1.none hg, h.2.2⟩
theorem CS.far {w w' : World} {c b g : Nat} {s : St} (h : CS w c b s) (hg : w.grownBy w' (some g)) (h1 : g ≠ c) (h2 : g ≠ b) : CS w' c b s :=
  ⟨h.1.grown hg (fun e => h1 e.symm), h.2.1.kept hg (fun e => h2 (by injection e with e; exact e.symm)), h.2.2⟩

theorem new_any (now : Int) (w : World) : Calls Try.prog 9 #[.int .i64 now] w fun e w' => e = .returned (.pointer (some ⟨w.heap.size + 1, 0, none⟩)) ∧ CS w' (w.heap.size + 1) w.heap.size ⟨[], false, 0⟩ ∧ w.grownBy w' none := by
  have hmm := @run_makeMap Try.prog
  have HC := Lib.hid (CB.new1 w (.map #[] 0) 49 [.map (some w.heap.size), .bool false, .int .i64 0])
  have HM := Lib.hid ((MT.made (P := Try.prog) (k := 35) (kv := auV) (vv := uV) w).alloc (.cells #[.map (some w.heap.size), .bool false, .int .i64 0] 49))
  have HG := Lib.hid (grown_trans' (grown_alloc w (.map #[] 0) none) (grown_alloc (w.alloc (.map #[] 0)) (.cells #[.map (some w.heap.size), .bool false, .int .i64 0] 49) none))
  go_enter Try.func9, Try.ntmps9
  go_wp2
  go_ret
  exact ⟨rfl, ⟨HC.out, HM.out, by omega, (show I64 0 by unfold I64; omega), fun a h => by cases h⟩, HG.out⟩

theorem len_any (w : World) (c b : Nat) (s : St) (h : CS w c b s) : Calls Try.prog 14 #[.pointer (some ⟨c, 0, none⟩)] w fun e w' => e = .returned (.int .i64 s.M.length) ∧ w = w' := by
  have q0 : w.cell? ⟨c, 0, none⟩ = some (.map (some b)) := h.1.at_ rfl
  have HM := Lib.hid h.2.1
  have HL := Lib.hid (length_setM s.M)
  clear h
  go_enter Try.func14, Try.ntmps14
  go_wp2_with (refine wpList_lenM rfl _ rfl Try.underlying47 HM.out rfl ?_)
  go_ret
  rw [HL.out]
  exact ⟨rfl, rfl⟩

theorem isClosed_any (w : World) (c b : Nat) (s : St) (t : Int) (h : CS w c b s) (ht : I64 t) :
    Calls Try.prog 16 #[.pointer (some ⟨c, 0, none⟩), .int .i64 t] w fun e w' => e = .returned (.bool (s.cl && !far t s.beg)) ∧ w = w' := by
  obtain ⟨M, cl, beg⟩ := s
  have q1 : w.cell? ⟨c, 1, none⟩ = some (.bool cl) := h.1.at_ rfl
  have q2 : w.cell? ⟨c, 2, none⟩ = some (.int .i64 beg) := h.1.at_ rfl
  have IT := Lib.hid ht
  have IB := Lib.hid (show I64 beg from h.2.2.2.1)
  clear h ht
  cases cl with
  | true =>
    show Calls _ _ _ _ fun e w' => e = .returned (.bool (true && !far t beg)) ∧ w = w'
    rw [Bool.true_and]
    cases hf : far t beg with
    | true =>
      have HF := Lib.hid hf
      clear hf
      go_enter Try.func16, Try.ntmps16
      go_wp2_with (go_at_call 15; refine (farAbove_any t beg _ IT.out IB.out).mono ?_; rintro e w1 ⟨rfl, rfl⟩; rw [HF.out])
      go_ret
      exact ⟨rfl, rfl⟩
    | false =>
      have HF := Lib.hid hf
      clear hf
      go_enter Try.func16, Try.ntmps16
      go_wp2_with (go_at_call 15; refine (farAbove_any t beg _ IT.out IB.out).mono ?_; rintro e w1 ⟨rfl, rfl⟩; rw [HF.out])
      go_ret
      exact ⟨rfl, rfl⟩
  | false =>
    show Calls _ _ _ _ fun e w' => e = .returned (.bool (false && !far t beg)) ∧ w = w'
    rw [Bool.false_and]
    go_enter Try.func16, Try.ntmps16
    go_wp2
    go_ret
    exact ⟨rfl, rfl⟩

set_option maxRecDepth 10000 in
set_option maxHeartbeats 400000 in
theorem old_any (a : Au) (ha : auOk a) (now : Int) (hn : I64 now) (W : World) (nb : Nat) (hb : W.cell? ⟨nb, 0, none⟩ = some (.int .i64 now)) :
    Calls Try.prog 21 #[.agg (auC a).toArray, .agg #[], .pointer (some ⟨nb, 0, none⟩)] W fun e w' => e = .returned (.bool (far now a.2.1)) ∧ W.grownBy w' none := by
  have q0 : ((W.alloc (.cells (auC a).toArray 35)).alloc (.cells #[] 52)).cell? ⟨nb, 0, none⟩ = some (.int .i64 now) := cell_alloc (cell_alloc hb _) _
  have q1 : ((W.alloc (.cells (auC a).toArray 35)).alloc (.cells #[] 52)).cell? ⟨W.heap.size, 1, none⟩ = some (.int .i64 a.2.1) := ((CB.new W 35 (auC a)).alloc _).at_ (auC_ti a)
  have HG := Lib.hid (grown_trans' (grown_alloc W (.cells (auC a).toArray 35) none) (grown_alloc _ (.cells #[] 52) none))
  have IT := Lib.hid ha.ti
  have IN := Lib.hid hn
  clear ha hn hb
  go_enter Try.func21, Try.ntmps21
  go_wp2_with (go_at_call 15; refine (farAbove_any now a.2.1 _ IN.out IT.out).mono ?_; rintro e w1 ⟨rfl, rfl⟩)
  go_ret
  exact ⟨rfl, HG.out⟩
end Go.Proofs.Ytgamlioahdbikaa
