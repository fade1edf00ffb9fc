/- The document's Base: what its entries have to do with the code's map; its 'at' and 'Get'. -/
import Derived.Test.YtejmbabeniekhaaDoorBsi
import Derived.Test.YtejmbabeniekhaaDoorBsd
import Derived.Test.YtejmbabeniekhaaDoorSrt
import Derived.Sort.Walk0
namespace Go.Proofs.YtejmbabeniekhaaDoor
open Go.RowKit Go.Maps

/-- The name of an entry. -/
def nmE (e : En) : List UInt8 := e.1
/-- The document's entries are those of the code's map, and rise by their names. -/
def RelB (M : Em) (E : List En) : Prop := SortN nmE E ∧ E.Perm (M.map (·.2))
/-- What the document's Put does. -/
def PutS (E : List En) (e : En) (out : List En) (k : Int) : Prop :=
  (rightE e = false ∧ out = E ∧ k = 1) ∨ (rightE e = true ∧ ∃ i, atS nmE E e.1 = some i ∧ out = E.set i e ∧ k = 0) ∨
  (rightE e = true ∧ atS nmE E e.1 = none ∧ 16 ≤ E.length ∧ out = E ∧ k = 2) ∨ (rightE e = true ∧ atS nmE E e.1 = none ∧ E.length < 16 ∧ InsR nmE E e out ∧ k = 0)
def dropS (E : List En) (n : List UInt8) : List En × Bool := match atS nmE E n with
  | some i => (E.take i ++ E.drop (i + 1), true)
  | none => (E, false)
def getS (E : List En) (n : List UInt8) : En × Bool := match atS nmE E n with
  | some i => if (E.getD i zeroEn).2.2.2.2 = true then (zeroEn, false) else (E.getD i zeroEn, true)
  | none => (zeroEn, false)
section
variable {M : Em} {E out : List En} {e : En} {n : List UInt8} {k : Int}
theorem RelB.nil_ : RelB [] [] := ⟨List.Pairwise.nil, List.Perm.nil⟩
theorem RelB.len (h : RelB M E) : M.length = E.length := by rw [h.2.length_eq, List.length_map]
theorem RelB.mem (h : RelB M E) (hok : EmOk M) : (n, e) ∈ M ↔ e ∈ E ∧ e.1 = n := by
  rw [h.2.mem_iff, List.mem_map]
  constructor
  · intro hm
    exact ⟨⟨_, hm, rfl⟩, (hok _ hm).1.symm⟩
  · rintro ⟨⟨⟨a, b⟩, hm, rfl⟩, rfl⟩
    have := (hok _ hm).1
    simp only at this
    rw [← this]
    exact hm
theorem RelB.key (h : RelB M E) (hok : EmOk M) : n ∈ keysM M ↔ ∃ i, atS nmE E n = some i := by
  rw [mem_keysM]
  constructor
  · rintro ⟨v, hv⟩
    obtain ⟨h1, h2⟩ := (h.mem hok).1 hv
    cases ha : atS nmE E n with
    | some i => exact ⟨i, rfl⟩
    | none => exact absurd h2 (atS_none.1 ha v h1)
  · rintro ⟨i, hi⟩
    obtain ⟨x, hx, hn, _⟩ := atS_some hi
    exact ⟨x, (h.mem hok).2 ⟨List.mem_of_getElem? hx, hn⟩⟩
theorem RelB.okE (h : RelB M E) (hok : EmOk M) : ∀ x ∈ E, enOk x := fun _ hx => (hok _ ((h.mem hok).2 ⟨hx, rfl⟩)).2
theorem RelB.without (h : RelB M E) (hok : EmOk M) (n : List UInt8) : RelB (withoutM M n) (E.filter fun x => decide (nmE x ≠ n)) := by
  refine ⟨h.1.filter _, (h.2.filter _).trans (List.Perm.of_eq ?_)⟩
  unfold withoutM
  rw [List.filter_map]
  congr 1
  refine List.filter_congr fun p hp => ?_
  show decide (p.2.1 ≠ n) = decide (p.1 ≠ n)
  rw [(hok p hp).1]
theorem RelB.drop (h : RelB M E) (hok : EmOk M) : RelB (withoutM M n) (dropS E n).1 ∧ ((dropS E n).2 = true ↔ n ∈ keysM M) := by
  have hw := h.without hok n
  unfold dropS
  cases ha : atS nmE E n with
  | some i =>
    simp only
    rw [h.1.cut ha] at hw
    exact ⟨hw, ⟨fun _ => (h.key hok).2 ⟨i, ha⟩, fun _ => trivial⟩⟩
  | none =>
    simp only
    rw [SortN.cut_none ha] at hw
    exact ⟨hw, fun h1 => (by first | cases h1 | exact h1.elim), fun h1 => by obtain ⟨i, hi⟩ := (h.key hok).1 h1; rw [ha] at hi; cases hi⟩
theorem RelB.put (h : RelB M E) (hok : EmOk M) (hp : PutS E e out k) : RelB (putE M e).1 out ∧ (putE M e).2 = k := by
  have hw := h.without hok e.1
  unfold putE
  rcases hp with ⟨hr, rfl, rfl⟩ | ⟨hr, i, ha, rfl, rfl⟩ | ⟨hr, ha, hl, rfl, rfl⟩ | ⟨hr, ha, hl, hi, rfl⟩
  · rw [if_pos hr]
    exact ⟨h, rfl⟩
  · rw [if_neg (by rw [hr]; simp), if_neg (fun hh => hh.1 ((h.key hok).2 ⟨i, ha⟩))]
    refine ⟨⟨h.1.set ha rfl, ?_⟩, rfl⟩
    rw [List.map_append, List.map_cons, List.map_nil]
    exact (h.1.set_perm ha).trans (hw.2.append_right _)
  · have hn : e.1 ∉ keysM M := fun hh => by obtain ⟨i, hi⟩ := (h.key hok).1 hh; rw [ha] at hi; cases hi
    rw [if_neg (by rw [hr]; simp), if_pos ⟨hn, by rw [h.len]; exact hl⟩]
    exact ⟨h, rfl⟩
  · rw [if_neg (by rw [hr]; simp), if_neg (fun hh => by have := hh.2; rw [h.len] at this; omega)]
    rw [SortN.cut_none ha] at hw
    refine ⟨⟨hi.sorted h.1 (fun x hx => atS_none.1 ha x hx), ?_⟩, rfl⟩
    rw [List.map_append, List.map_cons, List.map_nil]
    exact hi.perm.trans (hw.2.append_right _)
theorem RelB.get (h : RelB M E) (hok : EmOk M) (hd : (keysM M).Nodup) : getE M n (getS E n).1 (getS E n).2 := by
  unfold getS
  cases ha : atS nmE E n with
  | some i =>
    obtain ⟨x, hx, hn, _⟩ := atS_some ha
    have hin := (h.mem hok).2 ⟨List.mem_of_getElem? hx, hn⟩
    have hg : E.getD i zeroEn = x := by rw [List.getD_eq_getElem?_getD, hx]; rfl
    simp only [hg]
    refine ⟨fun v hv ho => ?_, fun v hv ho => ?_, fun hnk => absurd (mem_keysM.2 ⟨x, hin⟩) hnk⟩
    · have e1 := key_mem hd hin hv
      subst e1
      rw [if_neg (by rw [ho]; simp)]
      exact ⟨rfl, rfl⟩
    · have e1 := key_mem hd hin hv
      subst e1
      rw [if_pos ho]
      exact ⟨rfl, rfl⟩
  | none =>
    refine ⟨fun v hv _ => ?_, fun v hv _ => ⟨rfl, rfl⟩, fun _ => ⟨rfl, rfl⟩⟩
    obtain ⟨i, hi⟩ := (h.key hok).1 (mem_keysM.2 ⟨v, hv⟩)
    rw [ha] at hi
    cases hi
theorem RelB.list (h : RelB M E) (hok : EmOk M) (hd : (keysM M).Nodup) {ks : List (List UInt8)} (hl : ListedM M ks) : ks.map (lookM zeroEn M) = E := by
  have hname : (ks.map (lookM zeroEn M)).map nmE = ks := by
    rw [List.map_map]
    conv => rhs; rw [← List.map_id ks]
    refine List.map_congr_left fun x hx => ?_
    have hm := lookM_mem zeroEn (hl.1.mem_iff.1 hx)
    exact (hok _ hm).1.symm
  refine (h.1.unique (F := ks.map (lookM zeroEn M)) ?_ (h.2.trans (lookM_perm zeroEn hd hl.1).symm)).symm
  rw [hname]
  exact hl.2
end

/-- The document's Base: its entries lie in a row of its own, all of it at or above B. -/
def LS (w : World) (B m : Nat) (E : List En) : Prop :=
  B ≤ m ∧ (∃ v, CB w m 47 [v] ∧ RowX w B 51 20 v (E.map enC)) ∧ (∀ x ∈ E, enOk x) ∧ E.length ≤ 16
theorem LS.none {w w' : World} {B m : Nat} {E : List En} (h : LS w B m E) (hg : w.grownBy w' none) : LS w' B m E := by
  obtain ⟨h1, ⟨v, h2, h3⟩, h4⟩ := h
  exact ⟨h1, ⟨v, h2.kept hg, h3.none hg⟩, h4⟩
/-- Another block is written, which is neither of such entries nor a Base of the document. -/
theorem LS.map {w w' : World} {B m g : Nat} {E : List En} {es : Array MapEntry} {cl : Nat} (h : LS w B m E) (hb : w.heap[g]? = some (.map es cl)) (hg : w.grownBy w' (some g)) : LS w' B m E := by
  obtain ⟨h1, ⟨v, h2, h3⟩, h4⟩ := h
  refine ⟨h1, ⟨v, h2.grown hg (fun e => ?_), h3.row hg (h3.ne_map hb)⟩, h4⟩
  subst e
  have := h2.symm.trans hb
  injection this with this
  cases this
theorem LS.open_ {w : World} {B m : Nat} {E : List En} (h : LS w B m E) : ∃ A cap, CB w m 47 [.slice A E.length cap] ∧ RowX w B 51 20 (.slice A E.length cap) (E.map enC) ∧ SR w w.heap.size A 20 (E.map enC) cap := by
  obtain ⟨-, ⟨v, h2, h3⟩, -⟩ := h
  obtain ⟨A, cap, rfl, hs, -⟩ := h3.shape
  rw [List.length_map] at h2 h3
  exact ⟨A, cap, h2, h3, hs⟩
def atI (o : Option Nat) : Int := match o with
  | some i => i
  | none => -1
theorem str_eqb (x y : List UInt8) : ((⟨x.toArray⟩ : ByteArray).toList == (⟨y.toArray⟩ : ByteArray).toList) = decide (x = y) := by
  rw [ByteArray.toList_eq, ByteArray.toList_eq, Bool.eq_iff_iff]
  simp
theorem str_less (x y : List UInt8) : Op.bytesLess (⟨x.toArray⟩ : ByteArray).toList (⟨y.toArray⟩ : ByteArray).toList = decide (x < y) := by
  rw [ByteArray.toList_eq, ByteArray.toList_eq, bytesLess_eq]

set_option maxRecDepth 10000 in
set_option maxHeartbeats 1000000 in
theorem at_any (w : World) (B m : Nat) (E : List En) (h : LS w B m E) (nm : List UInt8) :
    Calls Tryd.prog 55 #[.pointer (some ⟨m, 0, none⟩), strV nm] w fun e w' => e = .returned (.int .i64 (atI (atS nmE E nm))) ∧ w' = w := by
  obtain ⟨A, cap, hb, -, hs⟩ := h.open_
  obtain ⟨n, hn⟩ : ∃ n, E.length = n := ⟨_, rfl⟩
  rw [hn] at hb
  have HN := Lib.hid hn
  have HS := Lib.hid hs
  have N16 := Lib.hid (show n ≤ 16 by rw [← hn]; exact h.2.2.2)
  have q0 : w.cell? ⟨m, 0, none⟩ = some (.slice A n cap) := hb.at_ rfl
  unfold strV
  clear h hb hs hn
  go_enter Tryd.func55, Tryd.ntmps55
  go_wp2
  go_loopw [5] (fun v wr => ∃ k : Nat, k ≤ n ∧ v = .int .i64 k ∧ (∀ j y, E[j]? = some y → j < k → nmE y ≠ nm) ∧ wr = w) (fun v _ => n - (intOf v).toNat)
  case atStart => exact ⟨0, Nat.zero_le _, rfl, (fun j y _ hj => by omega), rfl⟩
  case round =>
    obtain ⟨k, hk, rfl, hbe, rfl⟩ := hrel
    have HBE := Lib.hid hbe
    have hn0 := N16.out
    clear hbe
    by_cases hlt : k < n
    · have hlti : (k : Int) < (n : Int) := by omega
      have hkE : k < E.length := by rw [HN.out]; exact hlt
      obtain ⟨x, hx⟩ : ∃ x, E[k] = x := ⟨_, rfl⟩
      obtain ⟨ab, ao, hAe, -, hcells⟩ := HS.out.elem (k := k) (by rw [List.length_map]; exact hkE)
      have q1 : wr.cell? ⟨ab, ao + k * 20, none⟩ = some (.string ⟨x.1.toArray⟩) := by rw [Nat.mul_comm]; exact hcells 0 _ (by rw [List.getElem_map, hx]; rfl)
      have HX := Lib.hid (show E[k]? = some x by rw [List.getElem?_eq_getElem hkE, hx])
      subst hAe
      clear hcells hx
      by_cases he : x.1 = nm
      · have d0 : (x.1 == nm) = true := by simpa using he
        have HE := Lib.hid (show atS nmE E nm = some k from atS_of HX.out he HBE.out)
        clear he
        go_wp2
        go_ret
        rw [HE.out]
        exact ⟨rfl, rfl⟩
      · have d0 : (x.1 == nm) = false := by simpa using he
        have HNE := Lib.hid he
        clear he
        go_wp2
        go_roundw
        case rel =>
          refine ⟨k + 1, by omega, by go_num, fun j y hy hj => ?_, by first | rfl | trivial⟩
          by_cases e : j = k
          · subst e
            have := HX.out.symm.trans hy
            injection this with this
            subst this
            exact HNE.out
          · exact HBE.out j y hy (by omega)
        case measure => simp [intOf]; omega
    · have HE := Lib.hid (show atS nmE E nm = none from atS_none.2 fun y hy => by
        obtain ⟨j, hj, rfl⟩ := List.getElem_of_mem hy
        exact HBE.out j _ (List.getElem?_eq_getElem hj) (by have := HN.out; omega))
      have hnlt : ¬ ((k : Int) < (n : Int)) := by omega
      go_wp2
      go_ret
      rw [HE.out]
      exact ⟨rfl, rfl⟩
end Go.Proofs.YtejmbabeniekhaaDoor
